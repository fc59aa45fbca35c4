/-
  What the program's write answers: the words of a call's kind, put together.
  Conditions: the library's variables and the program's tables hold what the program's text lays; a call as an argument.
-/
import Derived.Test.YtiepdfngjfhadaaDoorPaG
import Derived.Test.YtiepdfngjfhadaaDoorLg
namespace Go.Proofs.YtiepdfngjfhadaaDoor
set_option maxRecDepth 10000
open Go.RowKit Go.Sort
set_option linter.unusedVariables false
set_option linter.unusedSimpArgs false

/- Slices of strings. -/
def sv1 (b : ByteArray) : List Value := [.string b]
theorem sv1_len (b : ByteArray) : (sv1 b).length = 1 := rfl
theorem sv1_one (b : ByteArray) : ∀ v ∈ sv1 b, v.oneCell' = true := by
  intro v hv
  simp [sv1] at hv
  rw [hv]
  rfl
theorem infoStr : ∃ i z, Tryd.prog.info? 9 = some i ∧ i.zero = some z ∧ i.size = 1 ∧ i.bytes = 16 ∧ z.cells.size = 1 := by
  have h : (Tryd.prog.info? 9).map (fun i => (i.zero, i.size, i.bytes)) = some (some (.string ⟨#[]⟩), 1, 16) := by kernel_rfl
  obtain ⟨i, hi, h0, h1, h2⟩ := info_parts h
  exact ⟨i, _, hi, h0, h1, h2, rfl⟩
theorem bsStr (b : ByteArray) (w : World) : (Instr.buildSlice 35 1 #[(0, .string b)]).run Tryd.prog w = .ok (.slice (some ⟨w.heap.size, 0, none⟩) 1 1) (w.alloc (.cells #[.string b] 9)) := by kernel_rfl
theorem ow_str {g : Nat} {b : ByteArray} {w : World} (h : Blk g #[.string b] 9 w) : Ow sv1 1 9 g 1 [b] w := ⟨_, h, by simp, by decide, rfl, rfl⟩
theorem box_str {ops : Array Oper} {rest : List Oper} {op : Oper} {a : Act} {w : World} {Q : Exit → Act → World → Prop} (hgd : op.guard = none) (x : Operand) (ho : op.op = .buildSlice 35 1 #[(0, x)]) (b : ByteArray) (hx : a.eval x = .string b)
    (h : ∀ g W, Ow sv1 1 9 g 1 [b] W → w.heap.size ≤ g → Below w.heap.size w W → wpList Tryd.prog ops Q rest (a.put op.dst (.slice (some ⟨g, 0, none⟩) 1 1)) W) : wpList Tryd.prog ops Q (op :: rest) a w :=
  wpList_plain hgd fun _ hK => by
    have hk := hK _ _ (h _ _ (ow_str (blk_new w #[.string b] 9)) (Nat.le_refl _) (below_box w _))
    unfold Oper.wp execOp
    simp only [ho, List.map_toArray, List.map_cons, List.map_nil, hx, Sem.run_bind, Sem.run_pure, bsStr, Result.andThen_ok]
    exact hk
theorem form_range (d : Nat) (h : d ≤ 6) {w : World} (hF : Fs w) : w.rangeAt 0 (d * 2) [.string (kB d), .int .i64 (saysN d)] := by
  intro j v hv
  have := hF.forms (d * 2 + j) v (by
    have hd : d = 0 ∨ d = 1 ∨ d = 2 ∨ d = 3 ∨ d = 4 ∨ d = 5 ∨ d = 6 := by omega
    have hj : j = 0 ∨ j = 1 := by
      have := (List.getElem?_eq_some_iff.1 hv).1
      simp at this
      omega
    rcases hd with rfl | rfl | rfl | rfl | rfl | rfl | rfl <;> rcases hj with rfl | rfl <;> exact hv)
  rwa [Nat.zero_add] at this

/- While a request is put together: the call at z, its form at y. -/
structure Wr (z y : Nat) (C D : Array Value) (w0 w : World) : Prop where
  c : Blk z C 24 w
  f : Blk y D 55 w
  e : Te w
  b : Below w0.heap.size w0 w
  l : w0.heap.size ≤ y
  m : z < y
theorem Wr.up {z y : Nat} {C D : Array Value} {w0 w w' : World} (h : Wr z y C D w0 w) (hb : Below (y + 1) w w') (h8 : 8 ≤ y) : Wr z y C D w0 w' :=
  ⟨(hb.block z (by have := h.m; omega)).trans h.c, (hb.block y (Nat.lt_succ_self _)).trans h.f, h.e.below hb (by omega), h.b.trans (hb.mono (by have := h.l; omega)), h.l, h.m⟩
theorem Wr.next {z y : Nat} {C D : Array Value} {w0 w w' : World} (h : Wr z y C D w0 w) (hb : Below w.heap.size w w') : Wr z y C D w0 w' :=
  ⟨h.c.below hb, h.f.below hb, h.e.next hb, h.b.trans (hb.mono h.b.size), h.l, h.m⟩
/- The words that write puts together. -/
def wrL (c : Ca) : List ByteArray :=
  if c.d = 0 then [kB 0] else if c.d = 1 then [kB 1, strB (digs c.h)] else if c.d = 2 then [kB 2, strB (digs c.h), strB (sgns c.g)] else if c.d = 3 then [kB 3, strB (digs c.h), strB (digs c.o)]
  else if c.d = 4 then [kB 4, strB (digs c.h), strB (sgns c.gr)] else if c.d = 5 then [kB 5, strB (digs c.h), strB (sgns c.gr)] else if c.d = 6 then [kB 6, strB (digs c.h), strB (sgns c.gr), svB c.sv, strB (61 :: bL c.t)] else []
def writeS (c : Ca) : List UInt8 := Lib.join ((wrL c).map (·.data.toList)) [32]
theorem sgns_len (k : Int) (h0 : -9223372036854775808 ≤ k) (h1 : k ≤ 9223372036854775807) : (sgns k).length ≤ 21 := by
  unfold sgns
  split
  · have := digs_20 (n := k.natAbs) (by omega)
    simp
    omega
  · have := digs_20 (n := k.natAbs) (by omega)
    omega
theorem kindW_len (d : Nat) : (kindW d).length ≤ 6 := by unfold kindW; split <;> decide
theorem servW_len (d : Nat) : (servW d).length ≤ 6 := by unfold servW; split <;> decide
theorem svB_len (k : Int) : (svB k).data.toList.length ≤ 6 := by
  unfold svB
  split
  · exact servW_len _
  · decide
theorem writeS_len (c : Ca) (hf : c.fit) : (writeS c).length ≤ 140737488355328 := by
  obtain ⟨_, h1, h2, h3, h4, h5, h6⟩ := hf
  have a1 := digs_20 h1
  have a2 := digs_20 h2
  have a3 := sgns_len c.g h3.1 h3.2
  have a4 := sgns_len c.gr h4.1 h4.2
  have a5 := svB_len c.sv
  have a6 := bL_len c.t
  have k0 := kindW_len 0
  have k1 := kindW_len 1
  have k2 := kindW_len 2
  have k3 := kindW_len 3
  have k4 := kindW_len 4
  have k5 := kindW_len 5
  have k6 := kindW_len 6
  have e : ∀ l, (strB l).data.toList = l := strB_list
  unfold writeS wrL
  (repeat' split) <;> simp only [List.map_cons, List.map_nil, kB, e, Lib.join_nil, Lib.join_length, Lib.lens, List.length_cons, List.length_nil, List.sum_cons, List.sum_nil] <;> omega
theorem strB_61 (t : ByteArray) (h : t.size ≤ 140737488351232) (w : World) : (Op.stringOp .add { data := #[61] } t).run Tryd.prog w = .ok (.string (strB (61 :: bL t))) w := by
  have := sum_B [61] (bL t) (by rw [bL_len]; simp; omega) w
  rw [strB_bL] at this
  exact this

set_option maxHeartbeats 8000000 in
theorem write0 (h o : Nat) (g gr sv : Int) (t : ByteArray) (hf : (Ca.mk 0 h o g gr sv t).fit) (w : World) (hE : Te w) :
    Calls Tryd.prog 23 #[.agg (Ca.mk 0 h o g gr sv t).arr] w fun e w' => e = .returned (.string (strB (writeS (Ca.mk 0 h o g gr sv t)))) ∧ Below w.heap.size w w' := by
  have hlen := writeS_len (Ca.mk 0 h o g gr sv t) hf
  have he : writeS (Ca.mk 0 h o g gr sv t) = Lib.join (([kB 0]).map (·.data.toList)) [32] := rfl
  rw [he] at hlen ⊢
  clear he
  have bC := blk_new w (Ca.mk 0 h o g gr sv t).arr 24
  have hB := below_box w (.cells (Ca.mk 0 h o g gr sv t).arr 24)
  have hzy : w.heap.size < (w.alloc (.cells (Ca.mk 0 h o g gr sv t).arr 24)).heap.size := bC.lt
  replace hE := hE.next hB
  have pb := isBelow_ok 0 7
  rw [show decide ((0 : Int) ≤ 0 ∧ ((0 : Int) < 7)) = true from by decide] at pb

  go_enter Tryd.func23, Tryd.ntmps23
  go_upto_region 1 with fail
  try simp only [Act.put, List.setIfInBounds_toArray, List.set_cons_zero, List.set_cons_succ]
  generalize w.alloc (Obj.cells (Ca.mk 0 h o g gr sv t).arr 24) = W at bC hB hE hzy ⊢
  have hzl : w.heap.size ≤ w.heap.size := Nat.le_refl _
  obtain ⟨z, hz⟩ : ∃ z, Hid (w.heap.size = z) := ⟨_, rfl⟩
  rw [hz.out] at bC hzy ⊢
  have hc0 : W.cell? ⟨z, 0, none⟩ = some (.int .i64 0) := bC.cell 0 _ rfl
  go_wp2_with fail
  refine (pb _).mono ?_
  rintro e w1 ⟨rfl, rfl⟩
  clear pb
  have hr : w1.rangeAt 0 0 [.string (kB 0), .int .i64 0] := form_range 0 (by decide) hE.fs
  have h8 := hE.big
  have bF := blk_new w1 #[.string (kB 0), .int .i64 0] 55
  have hb := below_box w1 (.cells #[.string (kB 0), .int .i64 0] 55)
  have hWr : Wr z w1.heap.size (Ca.mk 0 h o g gr sv t).arr #[.string (kB 0), .int .i64 0] w (w1.alloc (.cells #[.string (kB 0), .int .i64 0] 55)) := ⟨bC.below hb, bF, hE.next hb, below_next hB hb, hB.size, hzy⟩
  clear bC hB hE hb bF hzl
  go_upto_region 4 with (first | refine load_range rfl 55 _ rfl [.string (kB 0), .int .i64 0] hr rfl Tryd.underlying55 rfl size_form ?_ | refine alloc_zero zero_form rfl rfl ?_ | refine store_new rfl 55 _ _ rfl (cells := #[.string (kB 0), .int .i64 0]) rfl rfl size_form rfl (by rfl) ?_)
  try simp only [Act.put, List.setIfInBounds_toArray, List.set_cons_zero, List.set_cons_succ]
  generalize w1.alloc (Obj.cells #[.string (kB 0), .int .i64 0] 55) = W1 at hWr ⊢
  obtain ⟨y, hy⟩ : ∃ y, Hid (w1.heap.size = y) := ⟨_, rfl⟩
  rw [hy.out] at hWr h8 ⊢
  clear hr hc0 hzy
  have hk0 : W1.cell? ⟨y, 0, none⟩ = some (.string (kB 0)) := hWr.f.cell 0 _ rfl
  obtain ⟨iI, zI, hI, hz0, hsz, hby, hzs⟩ := infoStr
  obtain ⟨kb, hkb⟩ : ∃ kb, Hid (kB 0 = kb) := ⟨_, rfl⟩
  rw [hkb.out] at hWr hk0 hlen
  go_wp2_with (refine box_str rfl _ rfl kb rfl ?_; intro g0 V0 hO0 hg0 hb0; have hW0 := hWr.next hb0; have hG0 := Lg.of (B := y + 1) hO0 (Nat.le_trans hWr.f.lt hg0); have cs0 : _ = some (Value.int .i64 0) := hW0.f.cell 1 _ rfl)
  have HL : Hid ((Lib.join (([kb] : List ByteArray).map (·.data.toList)) [32]).length ≤ 140737488355328) := hlen
  have hli := hO0.li (B := 0) (Nat.zero_le _)
  refine (join_ok g0 1 [kb] V0 (fun j x hx => ?_) hO0.lt (by simp) hO0.cap HL.out).mono ?_
  · rcases hli with h | ⟨b, o, e1, _, _, hr⟩
    · exact absurd h (by simp)
    · cases e1
      have := range_part sv1_len hr j x hx 0 _ rfl
      simpa using this
  rintro e w9 ⟨rfl, hb⟩
  go_wp2_with fail
  go_ret
  exact ⟨by rw [hkb.out]; rfl, below_next hW0.b hb⟩

set_option maxHeartbeats 8000000 in
theorem write1 (h o : Nat) (g gr sv : Int) (t : ByteArray) (hf : (Ca.mk 1 h o g gr sv t).fit) (w : World) (hE : Te w) :
    Calls Tryd.prog 23 #[.agg (Ca.mk 1 h o g gr sv t).arr] w fun e w' => e = .returned (.string (strB (writeS (Ca.mk 1 h o g gr sv t)))) ∧ Below w.heap.size w w' := by
  have hlen := writeS_len (Ca.mk 1 h o g gr sv t) hf
  have he : writeS (Ca.mk 1 h o g gr sv t) = Lib.join (([kB 1, strB (digs h)]).map (·.data.toList)) [32] := rfl
  rw [he] at hlen ⊢
  clear he
  have bC := blk_new w (Ca.mk 1 h o g gr sv t).arr 24
  have hB := below_box w (.cells (Ca.mk 1 h o g gr sv t).arr 24)
  have hzy : w.heap.size < (w.alloc (.cells (Ca.mk 1 h o g gr sv t).arr 24)).heap.size := bC.lt
  replace hE := hE.next hB
  have pb := isBelow_ok 1 7
  rw [show decide ((0 : Int) ≤ 1 ∧ ((1 : Int) < 7)) = true from by decide] at pb

  go_enter Tryd.func23, Tryd.ntmps23
  go_upto_region 1 with fail
  try simp only [Act.put, List.setIfInBounds_toArray, List.set_cons_zero, List.set_cons_succ]
  generalize w.alloc (Obj.cells (Ca.mk 1 h o g gr sv t).arr 24) = W at bC hB hE hzy ⊢
  have hzl : w.heap.size ≤ w.heap.size := Nat.le_refl _
  obtain ⟨z, hz⟩ : ∃ z, Hid (w.heap.size = z) := ⟨_, rfl⟩
  rw [hz.out] at bC hzy ⊢
  have hc0 : W.cell? ⟨z, 0, none⟩ = some (.int .i64 1) := bC.cell 0 _ rfl
  go_wp2_with fail
  refine (pb _).mono ?_
  rintro e w1 ⟨rfl, rfl⟩
  clear pb
  have hr : w1.rangeAt 0 2 [.string (kB 1), .int .i64 1] := form_range 1 (by decide) hE.fs
  have h8 := hE.big
  have bF := blk_new w1 #[.string (kB 1), .int .i64 1] 55
  have hb := below_box w1 (.cells #[.string (kB 1), .int .i64 1] 55)
  have hWr : Wr z w1.heap.size (Ca.mk 1 h o g gr sv t).arr #[.string (kB 1), .int .i64 1] w (w1.alloc (.cells #[.string (kB 1), .int .i64 1] 55)) := ⟨bC.below hb, bF, hE.next hb, below_next hB hb, hB.size, hzy⟩
  clear bC hB hE hb bF hzl
  go_upto_region 4 with (first | refine load_range rfl 55 _ rfl [.string (kB 1), .int .i64 1] hr rfl Tryd.underlying55 rfl size_form ?_ | refine alloc_zero zero_form rfl rfl ?_ | refine store_new rfl 55 _ _ rfl (cells := #[.string (kB 1), .int .i64 1]) rfl rfl size_form rfl (by rfl) ?_)
  try simp only [Act.put, List.setIfInBounds_toArray, List.set_cons_zero, List.set_cons_succ]
  generalize w1.alloc (Obj.cells #[.string (kB 1), .int .i64 1] 55) = W1 at hWr ⊢
  obtain ⟨y, hy⟩ : ∃ y, Hid (w1.heap.size = y) := ⟨_, rfl⟩
  rw [hy.out] at hWr h8 ⊢
  clear hr hc0 hzy
  have hk0 : W1.cell? ⟨y, 0, none⟩ = some (.string (kB 1)) := hWr.f.cell 0 _ rfl
  obtain ⟨iI, zI, hI, hz0, hsz, hby, hzs⟩ := infoStr
  obtain ⟨kb, hkb⟩ : ∃ kb, Hid (kB 1 = kb) := ⟨_, rfl⟩
  rw [hkb.out] at hWr hk0 hlen
  go_wp2_with (refine box_str rfl _ rfl kb rfl ?_; intro g0 V0 hO0 hg0 hb0; have hW0 := hWr.next hb0; have hG0 := Lg.of (B := y + 1) hO0 (Nat.le_trans hWr.f.lt hg0); have cs0 : _ = some (Value.int .i64 1) := hW0.f.cell 1 _ rfl; have cf0 : _ = some (Value.int .u64 (h : Int)) := hW0.c.cell 1 _ rfl)
  refine (fmt_ok h hf.2.1 _ hW0.e).mono ?_
  rintro e u0 ⟨rfl, hb⟩
  have hX0 := hW0.next hb
  have hH0 := hG0.below hb
  clear hb hW0 hG0 cs0 cf0
  go_wp2_with (first | (refine box_str rfl _ rfl (strB (digs h)) rfl ?_; intro g1 Y1 hO1 hg1 hb1; have hZ1 := hX0.next hb1; have hQ1 := hH0.below hb1) | (refine append_lg sv1_len rfl _ _ rfl Tryd.underlying35 hI hz0 hsz hby hzs hQ1 (Nat.succ_le_of_lt hZ1.f.lt) (n := 1) rfl rfl (M := [strB (digs h)]) (Nat.zero_lt_succ _) ((hO1.li (Nat.zero_le _)).src sv1_len sv1_one Tryd.underlying35 1) rfl (show (1 + 1) * 16 ≤ 140737488355328 by decide) (show 1 + 1 ≤ maxLen by decide) ?_; intro a1 c1 V1 hG1 hbb1; have hW1 := hZ1.up hbb1 h8; have cs1 : _ = some (Value.int .i64 1) := hW1.f.cell 1 _ rfl))
  have HL : Hid ((Lib.join (([kb, strB (digs h)] : List ByteArray).map (·.data.toList)) [32]).length ≤ 140737488355328) := hlen
  have hGn := hG1
  obtain ⟨gz, rfl, hgB, hO⟩ : ∃ gz, a1 = some ⟨gz, 0, none⟩ ∧ y + 1 ≤ gz ∧ Ow sv1 1 9 gz c1 [kb, strB (digs h)] V1 := by
    rcases hGn with ⟨_, _, h⟩ | h
    · exact absurd h (by simp)
    · exact h
  have hli := hO.li (B := 0) (Nat.zero_le _)
  refine (join_ok gz c1 [kb, strB (digs h)] V1 (fun j x hx => ?_) hO.lt (by simp) hO.cap HL.out).mono ?_
  · rcases hli with h | ⟨b, o, e1, _, _, hr⟩
    · exact absurd h (by simp)
    · cases e1
      have := range_part sv1_len hr j x hx 0 _ rfl
      simpa using this
  rintro e w9 ⟨rfl, hb⟩
  go_wp2_with fail
  go_ret
  exact ⟨by rw [hkb.out]; rfl, below_next hW1.b hb⟩

set_option maxHeartbeats 8000000 in
theorem write2 (h o : Nat) (g gr sv : Int) (t : ByteArray) (hf : (Ca.mk 2 h o g gr sv t).fit) (w : World) (hE : Te w) :
    Calls Tryd.prog 23 #[.agg (Ca.mk 2 h o g gr sv t).arr] w fun e w' => e = .returned (.string (strB (writeS (Ca.mk 2 h o g gr sv t)))) ∧ Below w.heap.size w w' := by
  have hlen := writeS_len (Ca.mk 2 h o g gr sv t) hf
  have he : writeS (Ca.mk 2 h o g gr sv t) = Lib.join (([kB 2, strB (digs h), strB (sgns g)]).map (·.data.toList)) [32] := rfl
  rw [he] at hlen ⊢
  clear he
  have bC := blk_new w (Ca.mk 2 h o g gr sv t).arr 24
  have hB := below_box w (.cells (Ca.mk 2 h o g gr sv t).arr 24)
  have hzy : w.heap.size < (w.alloc (.cells (Ca.mk 2 h o g gr sv t).arr 24)).heap.size := bC.lt
  replace hE := hE.next hB
  have pb := isBelow_ok 2 7
  rw [show decide ((0 : Int) ≤ 2 ∧ ((2 : Int) < 7)) = true from by decide] at pb

  go_enter Tryd.func23, Tryd.ntmps23
  go_upto_region 1 with fail
  try simp only [Act.put, List.setIfInBounds_toArray, List.set_cons_zero, List.set_cons_succ]
  generalize w.alloc (Obj.cells (Ca.mk 2 h o g gr sv t).arr 24) = W at bC hB hE hzy ⊢
  have hzl : w.heap.size ≤ w.heap.size := Nat.le_refl _
  obtain ⟨z, hz⟩ : ∃ z, Hid (w.heap.size = z) := ⟨_, rfl⟩
  rw [hz.out] at bC hzy ⊢
  have hc0 : W.cell? ⟨z, 0, none⟩ = some (.int .i64 2) := bC.cell 0 _ rfl
  go_wp2_with fail
  refine (pb _).mono ?_
  rintro e w1 ⟨rfl, rfl⟩
  clear pb
  have hr : w1.rangeAt 0 4 [.string (kB 2), .int .i64 3] := form_range 2 (by decide) hE.fs
  have h8 := hE.big
  have bF := blk_new w1 #[.string (kB 2), .int .i64 3] 55
  have hb := below_box w1 (.cells #[.string (kB 2), .int .i64 3] 55)
  have hWr : Wr z w1.heap.size (Ca.mk 2 h o g gr sv t).arr #[.string (kB 2), .int .i64 3] w (w1.alloc (.cells #[.string (kB 2), .int .i64 3] 55)) := ⟨bC.below hb, bF, hE.next hb, below_next hB hb, hB.size, hzy⟩
  clear bC hB hE hb bF hzl
  go_upto_region 4 with (first | refine load_range rfl 55 _ rfl [.string (kB 2), .int .i64 3] hr rfl Tryd.underlying55 rfl size_form ?_ | refine alloc_zero zero_form rfl rfl ?_ | refine store_new rfl 55 _ _ rfl (cells := #[.string (kB 2), .int .i64 3]) rfl rfl size_form rfl (by rfl) ?_)
  try simp only [Act.put, List.setIfInBounds_toArray, List.set_cons_zero, List.set_cons_succ]
  generalize w1.alloc (Obj.cells #[.string (kB 2), .int .i64 3] 55) = W1 at hWr ⊢
  obtain ⟨y, hy⟩ : ∃ y, Hid (w1.heap.size = y) := ⟨_, rfl⟩
  rw [hy.out] at hWr h8 ⊢
  clear hr hc0 hzy
  have hk0 : W1.cell? ⟨y, 0, none⟩ = some (.string (kB 2)) := hWr.f.cell 0 _ rfl
  obtain ⟨iI, zI, hI, hz0, hsz, hby, hzs⟩ := infoStr
  obtain ⟨kb, hkb⟩ : ∃ kb, Hid (kB 2 = kb) := ⟨_, rfl⟩
  rw [hkb.out] at hWr hk0 hlen
  go_wp2_with (refine box_str rfl _ rfl kb rfl ?_; intro g0 V0 hO0 hg0 hb0; have hW0 := hWr.next hb0; have hG0 := Lg.of (B := y + 1) hO0 (Nat.le_trans hWr.f.lt hg0); have cs0 : _ = some (Value.int .i64 3) := hW0.f.cell 1 _ rfl; have cf0 : _ = some (Value.int .u64 (h : Int)) := hW0.c.cell 1 _ rfl)
  refine (fmt_ok h hf.2.1 _ hW0.e).mono ?_
  rintro e u0 ⟨rfl, hb⟩
  have hX0 := hW0.next hb
  have hH0 := hG0.below hb
  clear hb hW0 hG0 cs0 cf0
  go_wp2_with (first | (refine box_str rfl _ rfl (strB (digs h)) rfl ?_; intro g1 Y1 hO1 hg1 hb1; have hZ1 := hX0.next hb1; have hQ1 := hH0.below hb1) | (refine append_lg sv1_len rfl _ _ rfl Tryd.underlying35 hI hz0 hsz hby hzs hQ1 (Nat.succ_le_of_lt hZ1.f.lt) (n := 1) rfl rfl (M := [strB (digs h)]) (Nat.zero_lt_succ _) ((hO1.li (Nat.zero_le _)).src sv1_len sv1_one Tryd.underlying35 1) rfl (show (1 + 1) * 16 ≤ 140737488355328 by decide) (show 1 + 1 ≤ maxLen by decide) ?_; intro a1 c1 V1 hG1 hbb1; have hW1 := hZ1.up hbb1 h8; have cs1 : _ = some (Value.int .i64 3) := hW1.f.cell 1 _ rfl; have cf1 : _ = some (Value.int .i64 g) := hW1.c.cell 3 _ rfl))
  refine (itoa_ok g hf.2.2.2.1.1 hf.2.2.2.1.2 _ hW1.e).mono ?_
  rintro e u1 ⟨rfl, hb⟩
  have hX1 := hW1.next hb
  have hH1 := hG1.below hb
  clear hb hW1 hG1 cs1 cf1
  go_wp2_with (first | (refine box_str rfl _ rfl (strB (sgns g)) rfl ?_; intro g2 Y2 hO2 hg2 hb2; have hZ2 := hX1.next hb2; have hQ2 := hH1.below hb2) | (refine append_lg sv1_len rfl _ _ rfl Tryd.underlying35 hI hz0 hsz hby hzs hQ2 (Nat.succ_le_of_lt hZ2.f.lt) (n := 2) rfl rfl (M := [strB (sgns g)]) (Nat.zero_lt_succ _) ((hO2.li (Nat.zero_le _)).src sv1_len sv1_one Tryd.underlying35 1) rfl (show (2 + 1) * 16 ≤ 140737488355328 by decide) (show 2 + 1 ≤ maxLen by decide) ?_; intro a2 c2 V2 hG2 hbb2; have hW2 := hZ2.up hbb2 h8; have cs2 : _ = some (Value.int .i64 3) := hW2.f.cell 1 _ rfl))
  have HL : Hid ((Lib.join (([kb, strB (digs h), strB (sgns g)] : List ByteArray).map (·.data.toList)) [32]).length ≤ 140737488355328) := hlen
  have hGn := hG2
  obtain ⟨gz, rfl, hgB, hO⟩ : ∃ gz, a2 = some ⟨gz, 0, none⟩ ∧ y + 1 ≤ gz ∧ Ow sv1 1 9 gz c2 [kb, strB (digs h), strB (sgns g)] V2 := by
    rcases hGn with ⟨_, _, h⟩ | h
    · exact absurd h (by simp)
    · exact h
  have hli := hO.li (B := 0) (Nat.zero_le _)
  refine (join_ok gz c2 [kb, strB (digs h), strB (sgns g)] V2 (fun j x hx => ?_) hO.lt (by simp) hO.cap HL.out).mono ?_
  · rcases hli with h | ⟨b, o, e1, _, _, hr⟩
    · exact absurd h (by simp)
    · cases e1
      have := range_part sv1_len hr j x hx 0 _ rfl
      simpa using this
  rintro e w9 ⟨rfl, hb⟩
  go_wp2_with fail
  go_ret
  exact ⟨by rw [hkb.out]; rfl, below_next hW2.b hb⟩

set_option maxHeartbeats 8000000 in
theorem write3 (h o : Nat) (g gr sv : Int) (t : ByteArray) (hf : (Ca.mk 3 h o g gr sv t).fit) (w : World) (hE : Te w) :
    Calls Tryd.prog 23 #[.agg (Ca.mk 3 h o g gr sv t).arr] w fun e w' => e = .returned (.string (strB (writeS (Ca.mk 3 h o g gr sv t)))) ∧ Below w.heap.size w w' := by
  have hlen := writeS_len (Ca.mk 3 h o g gr sv t) hf
  have he : writeS (Ca.mk 3 h o g gr sv t) = Lib.join (([kB 3, strB (digs h), strB (digs o)]).map (·.data.toList)) [32] := rfl
  rw [he] at hlen ⊢
  clear he
  have bC := blk_new w (Ca.mk 3 h o g gr sv t).arr 24
  have hB := below_box w (.cells (Ca.mk 3 h o g gr sv t).arr 24)
  have hzy : w.heap.size < (w.alloc (.cells (Ca.mk 3 h o g gr sv t).arr 24)).heap.size := bC.lt
  replace hE := hE.next hB
  have pb := isBelow_ok 3 7
  rw [show decide ((0 : Int) ≤ 3 ∧ ((3 : Int) < 7)) = true from by decide] at pb

  go_enter Tryd.func23, Tryd.ntmps23
  go_upto_region 1 with fail
  try simp only [Act.put, List.setIfInBounds_toArray, List.set_cons_zero, List.set_cons_succ]
  generalize w.alloc (Obj.cells (Ca.mk 3 h o g gr sv t).arr 24) = W at bC hB hE hzy ⊢
  have hzl : w.heap.size ≤ w.heap.size := Nat.le_refl _
  obtain ⟨z, hz⟩ : ∃ z, Hid (w.heap.size = z) := ⟨_, rfl⟩
  rw [hz.out] at bC hzy ⊢
  have hc0 : W.cell? ⟨z, 0, none⟩ = some (.int .i64 3) := bC.cell 0 _ rfl
  go_wp2_with fail
  refine (pb _).mono ?_
  rintro e w1 ⟨rfl, rfl⟩
  clear pb
  have hr : w1.rangeAt 0 6 [.string (kB 3), .int .i64 5] := form_range 3 (by decide) hE.fs
  have h8 := hE.big
  have bF := blk_new w1 #[.string (kB 3), .int .i64 5] 55
  have hb := below_box w1 (.cells #[.string (kB 3), .int .i64 5] 55)
  have hWr : Wr z w1.heap.size (Ca.mk 3 h o g gr sv t).arr #[.string (kB 3), .int .i64 5] w (w1.alloc (.cells #[.string (kB 3), .int .i64 5] 55)) := ⟨bC.below hb, bF, hE.next hb, below_next hB hb, hB.size, hzy⟩
  clear bC hB hE hb bF hzl
  go_upto_region 4 with (first | refine load_range rfl 55 _ rfl [.string (kB 3), .int .i64 5] hr rfl Tryd.underlying55 rfl size_form ?_ | refine alloc_zero zero_form rfl rfl ?_ | refine store_new rfl 55 _ _ rfl (cells := #[.string (kB 3), .int .i64 5]) rfl rfl size_form rfl (by rfl) ?_)
  try simp only [Act.put, List.setIfInBounds_toArray, List.set_cons_zero, List.set_cons_succ]
  generalize w1.alloc (Obj.cells #[.string (kB 3), .int .i64 5] 55) = W1 at hWr ⊢
  obtain ⟨y, hy⟩ : ∃ y, Hid (w1.heap.size = y) := ⟨_, rfl⟩
  rw [hy.out] at hWr h8 ⊢
  clear hr hc0 hzy
  have hk0 : W1.cell? ⟨y, 0, none⟩ = some (.string (kB 3)) := hWr.f.cell 0 _ rfl
  obtain ⟨iI, zI, hI, hz0, hsz, hby, hzs⟩ := infoStr
  obtain ⟨kb, hkb⟩ : ∃ kb, Hid (kB 3 = kb) := ⟨_, rfl⟩
  rw [hkb.out] at hWr hk0 hlen
  go_wp2_with (refine box_str rfl _ rfl kb rfl ?_; intro g0 V0 hO0 hg0 hb0; have hW0 := hWr.next hb0; have hG0 := Lg.of (B := y + 1) hO0 (Nat.le_trans hWr.f.lt hg0); have cs0 : _ = some (Value.int .i64 5) := hW0.f.cell 1 _ rfl; have cf0 : _ = some (Value.int .u64 (h : Int)) := hW0.c.cell 1 _ rfl)
  refine (fmt_ok h hf.2.1 _ hW0.e).mono ?_
  rintro e u0 ⟨rfl, hb⟩
  have hX0 := hW0.next hb
  have hH0 := hG0.below hb
  clear hb hW0 hG0 cs0 cf0
  go_wp2_with (first | (refine box_str rfl _ rfl (strB (digs h)) rfl ?_; intro g1 Y1 hO1 hg1 hb1; have hZ1 := hX0.next hb1; have hQ1 := hH0.below hb1) | (refine append_lg sv1_len rfl _ _ rfl Tryd.underlying35 hI hz0 hsz hby hzs hQ1 (Nat.succ_le_of_lt hZ1.f.lt) (n := 1) rfl rfl (M := [strB (digs h)]) (Nat.zero_lt_succ _) ((hO1.li (Nat.zero_le _)).src sv1_len sv1_one Tryd.underlying35 1) rfl (show (1 + 1) * 16 ≤ 140737488355328 by decide) (show 1 + 1 ≤ maxLen by decide) ?_; intro a1 c1 V1 hG1 hbb1; have hW1 := hZ1.up hbb1 h8; have cs1 : _ = some (Value.int .i64 5) := hW1.f.cell 1 _ rfl; have cf1 : _ = some (Value.int .u64 (o : Int)) := hW1.c.cell 2 _ rfl))
  refine (fmt_ok o hf.2.2.1 _ hW1.e).mono ?_
  rintro e u1 ⟨rfl, hb⟩
  have hX1 := hW1.next hb
  have hH1 := hG1.below hb
  clear hb hW1 hG1 cs1 cf1
  go_wp2_with (first | (refine box_str rfl _ rfl (strB (digs o)) rfl ?_; intro g2 Y2 hO2 hg2 hb2; have hZ2 := hX1.next hb2; have hQ2 := hH1.below hb2) | (refine append_lg sv1_len rfl _ _ rfl Tryd.underlying35 hI hz0 hsz hby hzs hQ2 (Nat.succ_le_of_lt hZ2.f.lt) (n := 2) rfl rfl (M := [strB (digs o)]) (Nat.zero_lt_succ _) ((hO2.li (Nat.zero_le _)).src sv1_len sv1_one Tryd.underlying35 1) rfl (show (2 + 1) * 16 ≤ 140737488355328 by decide) (show 2 + 1 ≤ maxLen by decide) ?_; intro a2 c2 V2 hG2 hbb2; have hW2 := hZ2.up hbb2 h8; have cs2 : _ = some (Value.int .i64 5) := hW2.f.cell 1 _ rfl))
  have HL : Hid ((Lib.join (([kb, strB (digs h), strB (digs o)] : List ByteArray).map (·.data.toList)) [32]).length ≤ 140737488355328) := hlen
  have hGn := hG2
  obtain ⟨gz, rfl, hgB, hO⟩ : ∃ gz, a2 = some ⟨gz, 0, none⟩ ∧ y + 1 ≤ gz ∧ Ow sv1 1 9 gz c2 [kb, strB (digs h), strB (digs o)] V2 := by
    rcases hGn with ⟨_, _, h⟩ | h
    · exact absurd h (by simp)
    · exact h
  have hli := hO.li (B := 0) (Nat.zero_le _)
  refine (join_ok gz c2 [kb, strB (digs h), strB (digs o)] V2 (fun j x hx => ?_) hO.lt (by simp) hO.cap HL.out).mono ?_
  · rcases hli with h | ⟨b, o, e1, _, _, hr⟩
    · exact absurd h (by simp)
    · cases e1
      have := range_part sv1_len hr j x hx 0 _ rfl
      simpa using this
  rintro e w9 ⟨rfl, hb⟩
  go_wp2_with fail
  go_ret
  exact ⟨by rw [hkb.out]; rfl, below_next hW2.b hb⟩

set_option maxHeartbeats 8000000 in
theorem write4 (h o : Nat) (g gr sv : Int) (t : ByteArray) (hf : (Ca.mk 4 h o g gr sv t).fit) (w : World) (hE : Te w) :
    Calls Tryd.prog 23 #[.agg (Ca.mk 4 h o g gr sv t).arr] w fun e w' => e = .returned (.string (strB (writeS (Ca.mk 4 h o g gr sv t)))) ∧ Below w.heap.size w w' := by
  have hlen := writeS_len (Ca.mk 4 h o g gr sv t) hf
  have he : writeS (Ca.mk 4 h o g gr sv t) = Lib.join (([kB 4, strB (digs h), strB (sgns gr)]).map (·.data.toList)) [32] := rfl
  rw [he] at hlen ⊢
  clear he
  have bC := blk_new w (Ca.mk 4 h o g gr sv t).arr 24
  have hB := below_box w (.cells (Ca.mk 4 h o g gr sv t).arr 24)
  have hzy : w.heap.size < (w.alloc (.cells (Ca.mk 4 h o g gr sv t).arr 24)).heap.size := bC.lt
  replace hE := hE.next hB
  have pb := isBelow_ok 4 7
  rw [show decide ((0 : Int) ≤ 4 ∧ ((4 : Int) < 7)) = true from by decide] at pb

  go_enter Tryd.func23, Tryd.ntmps23
  go_upto_region 1 with fail
  try simp only [Act.put, List.setIfInBounds_toArray, List.set_cons_zero, List.set_cons_succ]
  generalize w.alloc (Obj.cells (Ca.mk 4 h o g gr sv t).arr 24) = W at bC hB hE hzy ⊢
  have hzl : w.heap.size ≤ w.heap.size := Nat.le_refl _
  obtain ⟨z, hz⟩ : ∃ z, Hid (w.heap.size = z) := ⟨_, rfl⟩
  rw [hz.out] at bC hzy ⊢
  have hc0 : W.cell? ⟨z, 0, none⟩ = some (.int .i64 4) := bC.cell 0 _ rfl
  go_wp2_with fail
  refine (pb _).mono ?_
  rintro e w1 ⟨rfl, rfl⟩
  clear pb
  have hr : w1.rangeAt 0 8 [.string (kB 4), .int .i64 9] := form_range 4 (by decide) hE.fs
  have h8 := hE.big
  have bF := blk_new w1 #[.string (kB 4), .int .i64 9] 55
  have hb := below_box w1 (.cells #[.string (kB 4), .int .i64 9] 55)
  have hWr : Wr z w1.heap.size (Ca.mk 4 h o g gr sv t).arr #[.string (kB 4), .int .i64 9] w (w1.alloc (.cells #[.string (kB 4), .int .i64 9] 55)) := ⟨bC.below hb, bF, hE.next hb, below_next hB hb, hB.size, hzy⟩
  clear bC hB hE hb bF hzl
  go_upto_region 4 with (first | refine load_range rfl 55 _ rfl [.string (kB 4), .int .i64 9] hr rfl Tryd.underlying55 rfl size_form ?_ | refine alloc_zero zero_form rfl rfl ?_ | refine store_new rfl 55 _ _ rfl (cells := #[.string (kB 4), .int .i64 9]) rfl rfl size_form rfl (by rfl) ?_)
  try simp only [Act.put, List.setIfInBounds_toArray, List.set_cons_zero, List.set_cons_succ]
  generalize w1.alloc (Obj.cells #[.string (kB 4), .int .i64 9] 55) = W1 at hWr ⊢
  obtain ⟨y, hy⟩ : ∃ y, Hid (w1.heap.size = y) := ⟨_, rfl⟩
  rw [hy.out] at hWr h8 ⊢
  clear hr hc0 hzy
  have hk0 : W1.cell? ⟨y, 0, none⟩ = some (.string (kB 4)) := hWr.f.cell 0 _ rfl
  obtain ⟨iI, zI, hI, hz0, hsz, hby, hzs⟩ := infoStr
  obtain ⟨kb, hkb⟩ : ∃ kb, Hid (kB 4 = kb) := ⟨_, rfl⟩
  rw [hkb.out] at hWr hk0 hlen
  go_wp2_with (refine box_str rfl _ rfl kb rfl ?_; intro g0 V0 hO0 hg0 hb0; have hW0 := hWr.next hb0; have hG0 := Lg.of (B := y + 1) hO0 (Nat.le_trans hWr.f.lt hg0); have cs0 : _ = some (Value.int .i64 9) := hW0.f.cell 1 _ rfl; have cf0 : _ = some (Value.int .u64 (h : Int)) := hW0.c.cell 1 _ rfl)
  refine (fmt_ok h hf.2.1 _ hW0.e).mono ?_
  rintro e u0 ⟨rfl, hb⟩
  have hX0 := hW0.next hb
  have hH0 := hG0.below hb
  clear hb hW0 hG0 cs0 cf0
  go_wp2_with (first | (refine box_str rfl _ rfl (strB (digs h)) rfl ?_; intro g1 Y1 hO1 hg1 hb1; have hZ1 := hX0.next hb1; have hQ1 := hH0.below hb1) | (refine append_lg sv1_len rfl _ _ rfl Tryd.underlying35 hI hz0 hsz hby hzs hQ1 (Nat.succ_le_of_lt hZ1.f.lt) (n := 1) rfl rfl (M := [strB (digs h)]) (Nat.zero_lt_succ _) ((hO1.li (Nat.zero_le _)).src sv1_len sv1_one Tryd.underlying35 1) rfl (show (1 + 1) * 16 ≤ 140737488355328 by decide) (show 1 + 1 ≤ maxLen by decide) ?_; intro a1 c1 V1 hG1 hbb1; have hW1 := hZ1.up hbb1 h8; have cs1 : _ = some (Value.int .i64 9) := hW1.f.cell 1 _ rfl; have cf1 : _ = some (Value.int .i64 gr) := hW1.c.cell 4 _ rfl))
  refine (itoa_ok gr hf.2.2.2.2.1.1 hf.2.2.2.2.1.2 _ hW1.e).mono ?_
  rintro e u1 ⟨rfl, hb⟩
  have hX1 := hW1.next hb
  have hH1 := hG1.below hb
  clear hb hW1 hG1 cs1 cf1
  go_wp2_with (first | (refine box_str rfl _ rfl (strB (sgns gr)) rfl ?_; intro g2 Y2 hO2 hg2 hb2; have hZ2 := hX1.next hb2; have hQ2 := hH1.below hb2) | (refine append_lg sv1_len rfl _ _ rfl Tryd.underlying35 hI hz0 hsz hby hzs hQ2 (Nat.succ_le_of_lt hZ2.f.lt) (n := 2) rfl rfl (M := [strB (sgns gr)]) (Nat.zero_lt_succ _) ((hO2.li (Nat.zero_le _)).src sv1_len sv1_one Tryd.underlying35 1) rfl (show (2 + 1) * 16 ≤ 140737488355328 by decide) (show 2 + 1 ≤ maxLen by decide) ?_; intro a2 c2 V2 hG2 hbb2; have hW2 := hZ2.up hbb2 h8; have cs2 : _ = some (Value.int .i64 9) := hW2.f.cell 1 _ rfl))
  have HL : Hid ((Lib.join (([kb, strB (digs h), strB (sgns gr)] : List ByteArray).map (·.data.toList)) [32]).length ≤ 140737488355328) := hlen
  have hGn := hG2
  obtain ⟨gz, rfl, hgB, hO⟩ : ∃ gz, a2 = some ⟨gz, 0, none⟩ ∧ y + 1 ≤ gz ∧ Ow sv1 1 9 gz c2 [kb, strB (digs h), strB (sgns gr)] V2 := by
    rcases hGn with ⟨_, _, h⟩ | h
    · exact absurd h (by simp)
    · exact h
  have hli := hO.li (B := 0) (Nat.zero_le _)
  refine (join_ok gz c2 [kb, strB (digs h), strB (sgns gr)] V2 (fun j x hx => ?_) hO.lt (by simp) hO.cap HL.out).mono ?_
  · rcases hli with h | ⟨b, o, e1, _, _, hr⟩
    · exact absurd h (by simp)
    · cases e1
      have := range_part sv1_len hr j x hx 0 _ rfl
      simpa using this
  rintro e w9 ⟨rfl, hb⟩
  go_wp2_with fail
  go_ret
  exact ⟨by rw [hkb.out]; rfl, below_next hW2.b hb⟩

set_option maxHeartbeats 8000000 in
theorem write5 (h o : Nat) (g gr sv : Int) (t : ByteArray) (hf : (Ca.mk 5 h o g gr sv t).fit) (w : World) (hE : Te w) :
    Calls Tryd.prog 23 #[.agg (Ca.mk 5 h o g gr sv t).arr] w fun e w' => e = .returned (.string (strB (writeS (Ca.mk 5 h o g gr sv t)))) ∧ Below w.heap.size w w' := by
  have hlen := writeS_len (Ca.mk 5 h o g gr sv t) hf
  have he : writeS (Ca.mk 5 h o g gr sv t) = Lib.join (([kB 5, strB (digs h), strB (sgns gr)]).map (·.data.toList)) [32] := rfl
  rw [he] at hlen ⊢
  clear he
  have bC := blk_new w (Ca.mk 5 h o g gr sv t).arr 24
  have hB := below_box w (.cells (Ca.mk 5 h o g gr sv t).arr 24)
  have hzy : w.heap.size < (w.alloc (.cells (Ca.mk 5 h o g gr sv t).arr 24)).heap.size := bC.lt
  replace hE := hE.next hB
  have pb := isBelow_ok 5 7
  rw [show decide ((0 : Int) ≤ 5 ∧ ((5 : Int) < 7)) = true from by decide] at pb

  go_enter Tryd.func23, Tryd.ntmps23
  go_upto_region 1 with fail
  try simp only [Act.put, List.setIfInBounds_toArray, List.set_cons_zero, List.set_cons_succ]
  generalize w.alloc (Obj.cells (Ca.mk 5 h o g gr sv t).arr 24) = W at bC hB hE hzy ⊢
  have hzl : w.heap.size ≤ w.heap.size := Nat.le_refl _
  obtain ⟨z, hz⟩ : ∃ z, Hid (w.heap.size = z) := ⟨_, rfl⟩
  rw [hz.out] at bC hzy ⊢
  have hc0 : W.cell? ⟨z, 0, none⟩ = some (.int .i64 5) := bC.cell 0 _ rfl
  go_wp2_with fail
  refine (pb _).mono ?_
  rintro e w1 ⟨rfl, rfl⟩
  clear pb
  have hr : w1.rangeAt 0 10 [.string (kB 5), .int .i64 9] := form_range 5 (by decide) hE.fs
  have h8 := hE.big
  have bF := blk_new w1 #[.string (kB 5), .int .i64 9] 55
  have hb := below_box w1 (.cells #[.string (kB 5), .int .i64 9] 55)
  have hWr : Wr z w1.heap.size (Ca.mk 5 h o g gr sv t).arr #[.string (kB 5), .int .i64 9] w (w1.alloc (.cells #[.string (kB 5), .int .i64 9] 55)) := ⟨bC.below hb, bF, hE.next hb, below_next hB hb, hB.size, hzy⟩
  clear bC hB hE hb bF hzl
  go_upto_region 4 with (first | refine load_range rfl 55 _ rfl [.string (kB 5), .int .i64 9] hr rfl Tryd.underlying55 rfl size_form ?_ | refine alloc_zero zero_form rfl rfl ?_ | refine store_new rfl 55 _ _ rfl (cells := #[.string (kB 5), .int .i64 9]) rfl rfl size_form rfl (by rfl) ?_)
  try simp only [Act.put, List.setIfInBounds_toArray, List.set_cons_zero, List.set_cons_succ]
  generalize w1.alloc (Obj.cells #[.string (kB 5), .int .i64 9] 55) = W1 at hWr ⊢
  obtain ⟨y, hy⟩ : ∃ y, Hid (w1.heap.size = y) := ⟨_, rfl⟩
  rw [hy.out] at hWr h8 ⊢
  clear hr hc0 hzy
  have hk0 : W1.cell? ⟨y, 0, none⟩ = some (.string (kB 5)) := hWr.f.cell 0 _ rfl
  obtain ⟨iI, zI, hI, hz0, hsz, hby, hzs⟩ := infoStr
  obtain ⟨kb, hkb⟩ : ∃ kb, Hid (kB 5 = kb) := ⟨_, rfl⟩
  rw [hkb.out] at hWr hk0 hlen
  go_wp2_with (refine box_str rfl _ rfl kb rfl ?_; intro g0 V0 hO0 hg0 hb0; have hW0 := hWr.next hb0; have hG0 := Lg.of (B := y + 1) hO0 (Nat.le_trans hWr.f.lt hg0); have cs0 : _ = some (Value.int .i64 9) := hW0.f.cell 1 _ rfl; have cf0 : _ = some (Value.int .u64 (h : Int)) := hW0.c.cell 1 _ rfl)
  refine (fmt_ok h hf.2.1 _ hW0.e).mono ?_
  rintro e u0 ⟨rfl, hb⟩
  have hX0 := hW0.next hb
  have hH0 := hG0.below hb
  clear hb hW0 hG0 cs0 cf0
  go_wp2_with (first | (refine box_str rfl _ rfl (strB (digs h)) rfl ?_; intro g1 Y1 hO1 hg1 hb1; have hZ1 := hX0.next hb1; have hQ1 := hH0.below hb1) | (refine append_lg sv1_len rfl _ _ rfl Tryd.underlying35 hI hz0 hsz hby hzs hQ1 (Nat.succ_le_of_lt hZ1.f.lt) (n := 1) rfl rfl (M := [strB (digs h)]) (Nat.zero_lt_succ _) ((hO1.li (Nat.zero_le _)).src sv1_len sv1_one Tryd.underlying35 1) rfl (show (1 + 1) * 16 ≤ 140737488355328 by decide) (show 1 + 1 ≤ maxLen by decide) ?_; intro a1 c1 V1 hG1 hbb1; have hW1 := hZ1.up hbb1 h8; have cs1 : _ = some (Value.int .i64 9) := hW1.f.cell 1 _ rfl; have cf1 : _ = some (Value.int .i64 gr) := hW1.c.cell 4 _ rfl))
  refine (itoa_ok gr hf.2.2.2.2.1.1 hf.2.2.2.2.1.2 _ hW1.e).mono ?_
  rintro e u1 ⟨rfl, hb⟩
  have hX1 := hW1.next hb
  have hH1 := hG1.below hb
  clear hb hW1 hG1 cs1 cf1
  go_wp2_with (first | (refine box_str rfl _ rfl (strB (sgns gr)) rfl ?_; intro g2 Y2 hO2 hg2 hb2; have hZ2 := hX1.next hb2; have hQ2 := hH1.below hb2) | (refine append_lg sv1_len rfl _ _ rfl Tryd.underlying35 hI hz0 hsz hby hzs hQ2 (Nat.succ_le_of_lt hZ2.f.lt) (n := 2) rfl rfl (M := [strB (sgns gr)]) (Nat.zero_lt_succ _) ((hO2.li (Nat.zero_le _)).src sv1_len sv1_one Tryd.underlying35 1) rfl (show (2 + 1) * 16 ≤ 140737488355328 by decide) (show 2 + 1 ≤ maxLen by decide) ?_; intro a2 c2 V2 hG2 hbb2; have hW2 := hZ2.up hbb2 h8; have cs2 : _ = some (Value.int .i64 9) := hW2.f.cell 1 _ rfl))
  have HL : Hid ((Lib.join (([kb, strB (digs h), strB (sgns gr)] : List ByteArray).map (·.data.toList)) [32]).length ≤ 140737488355328) := hlen
  have hGn := hG2
  obtain ⟨gz, rfl, hgB, hO⟩ : ∃ gz, a2 = some ⟨gz, 0, none⟩ ∧ y + 1 ≤ gz ∧ Ow sv1 1 9 gz c2 [kb, strB (digs h), strB (sgns gr)] V2 := by
    rcases hGn with ⟨_, _, h⟩ | h
    · exact absurd h (by simp)
    · exact h
  have hli := hO.li (B := 0) (Nat.zero_le _)
  refine (join_ok gz c2 [kb, strB (digs h), strB (sgns gr)] V2 (fun j x hx => ?_) hO.lt (by simp) hO.cap HL.out).mono ?_
  · rcases hli with h | ⟨b, o, e1, _, _, hr⟩
    · exact absurd h (by simp)
    · cases e1
      have := range_part sv1_len hr j x hx 0 _ rfl
      simpa using this
  rintro e w9 ⟨rfl, hb⟩
  go_wp2_with fail
  go_ret
  exact ⟨by rw [hkb.out]; rfl, below_next hW2.b hb⟩

set_option maxHeartbeats 8000000 in
theorem write6 (h o : Nat) (g gr sv : Int) (t : ByteArray) (hf : (Ca.mk 6 h o g gr sv t).fit) (w : World) (hE : Te w) :
    Calls Tryd.prog 23 #[.agg (Ca.mk 6 h o g gr sv t).arr] w fun e w' => e = .returned (.string (strB (writeS (Ca.mk 6 h o g gr sv t)))) ∧ Below w.heap.size w w' := by
  have hlen := writeS_len (Ca.mk 6 h o g gr sv t) hf
  have he : writeS (Ca.mk 6 h o g gr sv t) = Lib.join (([kB 6, strB (digs h), strB (sgns gr), svB sv, strB (61 :: bL t)]).map (·.data.toList)) [32] := rfl
  rw [he] at hlen ⊢
  clear he
  have bC := blk_new w (Ca.mk 6 h o g gr sv t).arr 24
  have hB := below_box w (.cells (Ca.mk 6 h o g gr sv t).arr 24)
  have hzy : w.heap.size < (w.alloc (.cells (Ca.mk 6 h o g gr sv t).arr 24)).heap.size := bC.lt
  replace hE := hE.next hB
  have pb := isBelow_ok 6 7
  rw [show decide ((0 : Int) ≤ 6 ∧ ((6 : Int) < 7)) = true from by decide] at pb
  have ha := strB_61 t hf.2.2.2.2.2.2
  go_enter Tryd.func23, Tryd.ntmps23
  go_upto_region 1 with fail
  try simp only [Act.put, List.setIfInBounds_toArray, List.set_cons_zero, List.set_cons_succ]
  generalize w.alloc (Obj.cells (Ca.mk 6 h o g gr sv t).arr 24) = W at bC hB hE hzy ⊢
  have hzl : w.heap.size ≤ w.heap.size := Nat.le_refl _
  obtain ⟨z, hz⟩ : ∃ z, Hid (w.heap.size = z) := ⟨_, rfl⟩
  rw [hz.out] at bC hzy ⊢
  have hc0 : W.cell? ⟨z, 0, none⟩ = some (.int .i64 6) := bC.cell 0 _ rfl
  go_wp2_with fail
  refine (pb _).mono ?_
  rintro e w1 ⟨rfl, rfl⟩
  clear pb
  have hr : w1.rangeAt 0 12 [.string (kB 6), .int .i64 57] := form_range 6 (by decide) hE.fs
  have h8 := hE.big
  have bF := blk_new w1 #[.string (kB 6), .int .i64 57] 55
  have hb := below_box w1 (.cells #[.string (kB 6), .int .i64 57] 55)
  have hWr : Wr z w1.heap.size (Ca.mk 6 h o g gr sv t).arr #[.string (kB 6), .int .i64 57] w (w1.alloc (.cells #[.string (kB 6), .int .i64 57] 55)) := ⟨bC.below hb, bF, hE.next hb, below_next hB hb, hB.size, hzy⟩
  clear bC hB hE hb bF hzl
  go_upto_region 4 with (first | refine load_range rfl 55 _ rfl [.string (kB 6), .int .i64 57] hr rfl Tryd.underlying55 rfl size_form ?_ | refine alloc_zero zero_form rfl rfl ?_ | refine store_new rfl 55 _ _ rfl (cells := #[.string (kB 6), .int .i64 57]) rfl rfl size_form rfl (by rfl) ?_)
  try simp only [Act.put, List.setIfInBounds_toArray, List.set_cons_zero, List.set_cons_succ]
  generalize w1.alloc (Obj.cells #[.string (kB 6), .int .i64 57] 55) = W1 at hWr ⊢
  obtain ⟨y, hy⟩ : ∃ y, Hid (w1.heap.size = y) := ⟨_, rfl⟩
  rw [hy.out] at hWr h8 ⊢
  clear hr hc0 hzy
  have hk0 : W1.cell? ⟨y, 0, none⟩ = some (.string (kB 6)) := hWr.f.cell 0 _ rfl
  obtain ⟨iI, zI, hI, hz0, hsz, hby, hzs⟩ := infoStr
  obtain ⟨kb, hkb⟩ : ∃ kb, Hid (kB 6 = kb) := ⟨_, rfl⟩
  rw [hkb.out] at hWr hk0 hlen
  go_wp2_with (refine box_str rfl _ rfl kb rfl ?_; intro g0 V0 hO0 hg0 hb0; have hW0 := hWr.next hb0; have hG0 := Lg.of (B := y + 1) hO0 (Nat.le_trans hWr.f.lt hg0); have cs0 : _ = some (Value.int .i64 57) := hW0.f.cell 1 _ rfl; have cf0 : _ = some (Value.int .u64 (h : Int)) := hW0.c.cell 1 _ rfl)
  refine (fmt_ok h hf.2.1 _ hW0.e).mono ?_
  rintro e u0 ⟨rfl, hb⟩
  have hX0 := hW0.next hb
  have hH0 := hG0.below hb
  clear hb hW0 hG0 cs0 cf0
  go_wp2_with (first | (refine box_str rfl _ rfl (strB (digs h)) rfl ?_; intro g1 Y1 hO1 hg1 hb1; have hZ1 := hX0.next hb1; have hQ1 := hH0.below hb1) | (refine append_lg sv1_len rfl _ _ rfl Tryd.underlying35 hI hz0 hsz hby hzs hQ1 (Nat.succ_le_of_lt hZ1.f.lt) (n := 1) rfl rfl (M := [strB (digs h)]) (Nat.zero_lt_succ _) ((hO1.li (Nat.zero_le _)).src sv1_len sv1_one Tryd.underlying35 1) rfl (show (1 + 1) * 16 ≤ 140737488355328 by decide) (show 1 + 1 ≤ maxLen by decide) ?_; intro a1 c1 V1 hG1 hbb1; have hW1 := hZ1.up hbb1 h8; have cs1 : _ = some (Value.int .i64 57) := hW1.f.cell 1 _ rfl; have cf1 : _ = some (Value.int .i64 gr) := hW1.c.cell 4 _ rfl))
  refine (itoa_ok gr hf.2.2.2.2.1.1 hf.2.2.2.2.1.2 _ hW1.e).mono ?_
  rintro e u1 ⟨rfl, hb⟩
  have hX1 := hW1.next hb
  have hH1 := hG1.below hb
  clear hb hW1 hG1 cs1 cf1
  go_wp2_with (first | (refine box_str rfl _ rfl (strB (sgns gr)) rfl ?_; intro g2 Y2 hO2 hg2 hb2; have hZ2 := hX1.next hb2; have hQ2 := hH1.below hb2) | (refine append_lg sv1_len rfl _ _ rfl Tryd.underlying35 hI hz0 hsz hby hzs hQ2 (Nat.succ_le_of_lt hZ2.f.lt) (n := 2) rfl rfl (M := [strB (sgns gr)]) (Nat.zero_lt_succ _) ((hO2.li (Nat.zero_le _)).src sv1_len sv1_one Tryd.underlying35 1) rfl (show (2 + 1) * 16 ≤ 140737488355328 by decide) (show 2 + 1 ≤ maxLen by decide) ?_; intro a2 c2 V2 hG2 hbb2; have hW2 := hZ2.up hbb2 h8; have cs2 : _ = some (Value.int .i64 57) := hW2.f.cell 1 _ rfl; have cf2 : _ = some (Value.int .i64 sv) := hW2.c.cell 5 _ rfl))
  refine (serviceWord_ok sv _ hW2.e.fs).mono ?_
  rintro e u2 ⟨rfl, rfl⟩
  have hX2 := hW2
  have hH2 := hG2
  clear hW2 hG2
  go_wp2_with (first | (refine box_str rfl _ rfl (svB sv) rfl ?_; intro g3 Y3 hO3 hg3 hb3; have hZ3 := hX2.next hb3; have hQ3 := hH2.below hb3) | (refine append_lg sv1_len rfl _ _ rfl Tryd.underlying35 hI hz0 hsz hby hzs hQ3 (Nat.succ_le_of_lt hZ3.f.lt) (n := 3) rfl rfl (M := [svB sv]) (Nat.zero_lt_succ _) ((hO3.li (Nat.zero_le _)).src sv1_len sv1_one Tryd.underlying35 1) rfl (show (3 + 1) * 16 ≤ 140737488355328 by decide) (show 3 + 1 ≤ maxLen by decide) ?_; intro a3 c3 V3 hG3 hbb3; have hW3 := hZ3.up hbb3 h8; have cs3 : _ = some (Value.int .i64 57) := hW3.f.cell 1 _ rfl; have cf3 : _ = some (Value.string t) := hW3.c.cell 6 _ rfl) | (refine box_str rfl _ rfl (strB (61 :: bL t)) rfl ?_; intro g4 Y4 hO4 hg4 hb4; have hZ4 := hW3.next hb4; have hQ4 := hG3.below hb4) | (refine append_lg sv1_len rfl _ _ rfl Tryd.underlying35 hI hz0 hsz hby hzs hQ4 (Nat.succ_le_of_lt hZ4.f.lt) (n := 4) rfl rfl (M := [strB (61 :: bL t)]) (Nat.zero_lt_succ _) ((hO4.li (Nat.zero_le _)).src sv1_len sv1_one Tryd.underlying35 1) rfl (show (4 + 1) * 16 ≤ 140737488355328 by decide) (show 4 + 1 ≤ maxLen by decide) ?_; intro a4 c4 V4 hG4 hbb4; have hW4 := hZ4.up hbb4 h8; have cs4 : _ = some (Value.int .i64 57) := hW4.f.cell 1 _ rfl))
  have HL : Hid ((Lib.join (([kb, strB (digs h), strB (sgns gr), svB sv, strB (61 :: bL t)] : List ByteArray).map (·.data.toList)) [32]).length ≤ 140737488355328) := hlen
  have hGn := hG4
  obtain ⟨gz, rfl, hgB, hO⟩ : ∃ gz, a4 = some ⟨gz, 0, none⟩ ∧ y + 1 ≤ gz ∧ Ow sv1 1 9 gz c4 [kb, strB (digs h), strB (sgns gr), svB sv, strB (61 :: bL t)] V4 := by
    rcases hGn with ⟨_, _, h⟩ | h
    · exact absurd h (by simp)
    · exact h
  have hli := hO.li (B := 0) (Nat.zero_le _)
  refine (join_ok gz c4 [kb, strB (digs h), strB (sgns gr), svB sv, strB (61 :: bL t)] V4 (fun j x hx => ?_) hO.lt (by simp) hO.cap HL.out).mono ?_
  · rcases hli with h | ⟨b, o, e1, _, _, hr⟩
    · exact absurd h (by simp)
    · cases e1
      have := range_part sv1_len hr j x hx 0 _ rfl
      simpa using this
  rintro e w9 ⟨rfl, hb⟩
  go_wp2_with fail
  go_ret
  exact ⟨by rw [hkb.out]; rfl, below_next hW4.b hb⟩

set_option maxHeartbeats 4000000 in
theorem writen (d : Int) (h o : Nat) (g gr sv : Int) (t : ByteArray) (hd : ¬ (0 ≤ d ∧ d < 7)) (w : World) :
    Calls Tryd.prog 23 #[.agg (Ca.mk d h o g gr sv t).arr] w fun e w' => e = .returned (.string (strB [])) ∧ Below w.heap.size w w' := by
  have bC := blk_new w (Ca.mk d h o g gr sv t).arr 24
  have hB := below_box w (.cells (Ca.mk d h o g gr sv t).arr 24)
  have pb := isBelow_ok d 7
  rw [decide_eq_false hd] at pb
  clear hd
  go_enter Tryd.func23, Tryd.ntmps23
  go_upto_region 1 with fail
  try simp only [Act.put, List.setIfInBounds_toArray, List.set_cons_zero, List.set_cons_succ]
  generalize w.alloc (Obj.cells (Ca.mk d h o g gr sv t).arr 24) = W at bC hB ⊢
  generalize w.heap.size = z at bC ⊢
  have hc0 : W.cell? ⟨z, 0, none⟩ = some (.int .i64 d) := bC.cell 0 _ rfl
  go_wp2_with fail
  refine (pb _).mono ?_
  rintro e w1 ⟨rfl, rfl⟩
  go_wp2_with fail
  go_ret
  exact ⟨rfl, hB⟩

theorem write_ok (c : Ca) (hf : c.fit) (w : World) (hE : Te w) : Calls Tryd.prog 23 #[.agg c.arr] w fun e w' => e = .returned (.string (strB (writeS c))) ∧ Below w.heap.size w w' := by
  obtain ⟨d, h, o, g, gr, sv, t⟩ := c
  by_cases hd : 0 ≤ d ∧ d < 7
  · have : d = 0 ∨ d = 1 ∨ d = 2 ∨ d = 3 ∨ d = 4 ∨ d = 5 ∨ d = 6 := by omega
    rcases this with rfl | rfl | rfl | rfl | rfl | rfl | rfl
    · exact write0 h o g gr sv t hf w hE
    · exact write1 h o g gr sv t hf w hE
    · exact write2 h o g gr sv t hf w hE
    · exact write3 h o g gr sv t hf w hE
    · exact write4 h o g gr sv t hf w hE
    · exact write5 h o g gr sv t hf w hE
    · exact write6 h o g gr sv t hf w hE
  · have e : writeS ⟨d, h, o, g, gr, sv, t⟩ = [] := by
      unfold writeS wrL
      simp only
      rw [if_neg (by omega), if_neg (by omega), if_neg (by omega), if_neg (by omega), if_neg (by omega), if_neg (by omega), if_neg (by omega)]
      rfl
    rw [e]
    exact writen d h o g gr sv t hd w

end Go.Proofs.YtiepdfngjfhadaaDoor
