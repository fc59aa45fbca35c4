/-
  The reader's methods: what cut, number, row, id, flag and frame take off the bytes that are left, and what they leave.
  Condition: far fewer bytes than a text may have are left.
-/
import Derived.Test.YtmbddjejbmjmfaaPkEnc
import Derived.Test.YtmbddjejbmjmfaaFrBk
namespace Go.Proofs.Ytmbddjejbmjmfaa
set_option maxRecDepth 10000
open Go.RowKit Go.Sort

def Rd (b : Nat) (l : List UInt8) (sp : Bool) (w : World) : Prop := Blk b #[.string (ba l), .bool sp] 86 w

theorem Rd.but {A b : Nat} {l : List UInt8} {sp : Bool} {w w' : World} (h : Rd A l sp w) (hb : But b w w') (hne : A ≠ b) : Rd A l sp w' := Blk.but h hb hne
theorem Rd.below {A : Nat} {l : List UInt8} {sp : Bool} {w w' : World} (h : Rd A l sp w) (hb : Below w.heap.size w w') : Rd A l sp w' := Blk.below h hb
theorem Rd.lt {A : Nat} {l : List UInt8} {sp : Bool} {w : World} (h : Rd A l sp w) : A < w.heap.size := Blk.lt h
theorem But.new {b V : Nat} {u w w' : World} (h : But b u w) (k : But V w w') (hV : u.heap.size ≤ V) : But b u w' :=
  ⟨k.os.trans h.os, k.tape.trans h.tape, k.output.trans h.output, Nat.le_trans h.size k.size, fun i hi hb => (k.block i (Nat.lt_of_lt_of_le hi h.size) (by omega)).trans (h.block i hi hb)⟩
theorem blk_set {B : Nat} {C : Array Value} {T : TypeId} {w : World} (h : Blk B C T w) (o : Nat) (v : Value) : Blk B (C.setIfInBounds o v) T (w.setCell ⟨B, o, none⟩ v) := heap_setCell_same w B o C T v h

theorem ba_front (F R : List UInt8) (k : Nat) (hk : F.length = k) : (ba (F ++ R)).extract 0 k = ba F := by
  apply ByteArray.ext
  apply Array.toList_inj.1
  rw [ByteArray.data_extract, Array.toList_extract]
  simp [List.extract, ← hk]
theorem ba_back (F R : List UInt8) (k : Nat) (hk : F.length = k) : (ba (F ++ R)).extract k (ba (F ++ R)).size = ba R := by
  apply ByteArray.ext
  apply Array.toList_inj.1
  rw [ByteArray.data_extract, Array.toList_extract, ba_size, List.length_append]
  simp [List.extract, ← hk]

set_option maxHeartbeats 1000000 in
theorem cut_ok (b k : Nat) (F R : List UInt8) (sp : Bool) (hk : F.length = k) (hl : F.length + R.length ≤ 1000) (w : World) (h : Rd b (F ++ R) sp w) :
    Calls Try.prog 64 #[.pointer (some ⟨b, 0, none⟩), .int .i64 (k : Int)] w fun e w' => e = .returned (.string (ba F)) ∧ Rd b R sp w' ∧ But b w w' := by
  have e1 := ba_front F R k hk
  have e2 := ba_back F R k hk
  have hz : k ≤ (ba (F ++ R)).size := by rw [ba_size, List.length_append]; omega
  have hz2 : (ba (F ++ R)).size ≤ 1000 := by rw [ba_size, List.length_append]; omega
  have hB : Blk b #[.string (ba (F ++ R)), .bool sp] 86 w := h
  generalize ba (F ++ R) = s at e1 e2 hz hz2 hB
  have hc := hB.cell 0 (.string s) rfl
  have hf := hB.free 0
  obtain ⟨W, hW⟩ : ∃ W, w.setCell ⟨b, 0, none⟩ (.string (ba R)) = W := ⟨_, rfl⟩
  have hB2 : Rd b R sp W := by rw [← hW]; exact blk_set hB 0 _
  have hbut : But b w W := by rw [← hW]; exact But.setCell b 0 w _
  clear hB h hk hl
  go_enter Try.func64, Try.ntmps64
  go_wp2_with fail
  go_ret
  exact ⟨rfl, hB2, hbut⟩

theorem val_self (k n : Nat) (hn : n < 256 ^ k) : Pack.val ((Pack.digits k n).take k) = n := by
  rw [List.take_of_length_le (by rw [Pack.digits_length]; exact Nat.le_refl _), Pack.val_digits, Nat.mod_eq_of_lt hn]

set_option maxHeartbeats 1000000 in
theorem number_rd (b k n : Nat) (R : List UInt8) (sp : Bool) (h1 : 1 ≤ k) (h4 : k ≤ 4) (hn : n < 256 ^ k) (hl : R.length ≤ 900) (w : World) (h : Rd b (Pack.digits k n ++ R) sp w) :
    Calls Try.prog 49 #[.pointer (some ⟨b, 0, none⟩), .int .i64 (k : Int)] w fun e w' => e = .returned (.int .u32 (n : Int)) ∧ Rd b R sp w' ∧ But b w w' := by
  have hcut := cut_ok b k (Pack.digits k n) R sp (Pack.digits_length k n) (by rw [Pack.digits_length]; omega) w h
  have htake := fun w => take_ok (ba (Pack.digits k n)) (by rw [ba_size, Pack.digits_length]; omega) k h1 (by omega) (by rw [ba_size, Pack.digits_length]; exact Nat.le_refl _) w
  rw [ba_data, val_self k n hn] at htake
  have hlt : n < 4294967296 := by
    have := Nat.pow_le_pow_right (n := 256) (by decide) h4
    omega
  generalize (ba (Pack.digits k n)).extract k (ba (Pack.digits k n)).size = rest at htake
  generalize ba (Pack.digits k n) = dg at hcut htake
  clear hn h hl h1 h4
  go_enter Try.func49, Try.ntmps49
  go_wp2_with fail
  refine hcut.mono ?_
  rintro e w1 ⟨rfl, hR1, hb1⟩
  go_wp2_with fail
  refine (htake _).mono ?_
  rintro e w2 ⟨rfl, hb2⟩
  have hR2 := hR1.below hb2
  have hb3 := hb1.trans (But.of_below hb2)
  clear hR1 hb1 hb2 hcut htake
  go_wp2_with fail
  go_ret
  exact ⟨rfl, hR2, hb3⟩

theorem number1_rd (b n : Nat) (R : List UInt8) (sp : Bool) (hn : n < 256) (hl : R.length ≤ 900) (w : World) (h : Rd b (Pack.digits 1 n ++ R) sp w) :
    Calls Try.prog 49 #[.pointer (some ⟨b, 0, none⟩), .int .i64 1] w fun e w' => e = .returned (.int .u32 (n : Int)) ∧ Rd b R sp w' ∧ But b w w' :=
  number_rd b 1 n R sp (by decide) (by decide) (by omega) hl w h
theorem number4_rd (b n : Nat) (R : List UInt8) (sp : Bool) (hn : n < 4294967296) (hl : R.length ≤ 900) (w : World) (h : Rd b (Pack.digits 4 n ++ R) sp w) :
    Calls Try.prog 49 #[.pointer (some ⟨b, 0, none⟩), .int .i64 4] w fun e w' => e = .returned (.int .u32 (n : Int)) ∧ Rd b R sp w' ∧ But b w w' :=
  number_rd b 4 n R sp (by decide) (by decide) (by omega) hl w h

theorem ret_cells {fn : Func} {p : Tmp} {ty : TypeId} {d : TypeDesc} (hr : fn.results = #[.cell p ty]) {tmps : Array Value} {w : World} {B : Nat} {C : Array Value} {T : TypeId} (hp : tmps.getD p undef = .pointer (some ⟨B, 0, none⟩)) (hB : Blk B C T w) (hu : Try.prog.underlying ty = some d) (hd : d.isRow = true) (hi : (Try.prog.info? ty).map (·.size) = some C.size) :
    (results fn tmps).run Try.prog w = .ok (.agg C) w :=
  results_cell_row hr tmps w B T C (0, 0) d hp hB hu (by cases d <;> first | rfl | exact hd) hi

theorem idc_set0 (x y z v : Nat) : (idc x y z).setIfInBounds 0 (.int .u32 (v : Int)) = idc v y z := rfl
theorem idc_set1 (x y z v : Nat) : (idc x y z).setIfInBounds 1 (.int .u32 (v : Int)) = idc x v z := rfl
theorem idc_set2 (x y z v : Nat) : (idc x y z).setIfInBounds 2 (.int .u32 (v : Int)) = idc x y v := rfl
theorem idc_one (x y z : Nat) : (idc x y z).all (·.oneCell') = true := by simp [idc, idl, Value.oneCell']
theorem idc_size (x y z : Nat) : (idc x y z).size = 3 := rfl
theorem rowc_size (n : Nat → Nat) (o : Nat) : (rowc n o).size = 8 := rfl
theorem rowc_one (n : Nat → Nat) (o : Nat) : (rowc n o).all (·.oneCell') = true := by simp [rowc, rowl, Value.oneCell']
theorem id_zero : (Try.prog.info? 24).map (fun i => (i.zero, i.size)) = some (some (.agg (idc 0 0 0)), 3) := by kernel_rfl
theorem row_zero : (Try.prog.info? 25).map (fun i => (i.zero, i.size)) = some (some (.agg (rowc (fun _ => 0) 0)), 8) := by kernel_rfl

theorem alloc_id {ops : Array Oper} {rest : List Oper} {o : Oper} {a : Act} {w : World} {Q : Exit → Act → World → Prop} (hgd : o.guard = none) (ho : o.op = .alloc 24)
    (h : wpList Try.prog ops Q rest (a.put o.dst (.pointer (some ⟨w.heap.size, 0, none⟩))) (w.alloc (.cells (idc 0 0 0) 24))) : wpList Try.prog ops Q (o :: rest) a w :=
  wpList_plain hgd fun _ hK => by
    have hz := (zero_of_info id_zero).1
    have hk := hK _ _ h
    unfold Oper.wp execOp
    simp only [ho, Instr.alloc, Sem.run_bind, hz, Result.andThen_ok]
    exact hk
theorem alloc_row {ops : Array Oper} {rest : List Oper} {o : Oper} {a : Act} {w : World} {Q : Exit → Act → World → Prop} (hgd : o.guard = none) (ho : o.op = .alloc 25)
    (h : wpList Try.prog ops Q rest (a.put o.dst (.pointer (some ⟨w.heap.size, 0, none⟩))) (w.alloc (.cells (rowc (fun _ => 0) 0) 25))) : wpList Try.prog ops Q (o :: rest) a w :=
  wpList_plain hgd fun _ hK => by
    have hz := (zero_of_info row_zero).1
    have hk := hK _ _ h
    unfold Oper.wp execOp
    simp only [ho, Instr.alloc, Sem.run_bind, hz, Result.andThen_ok]
    exact hk

set_option maxHeartbeats 2000000 in
theorem id_rd (b x y z : Nat) (R : List UInt8) (sp : Bool) (hx : x < 4294967296) (hy : y < 256) (hz : z < 4294967296) (hl : R.length ≤ 800) (w : World) (h : Rd b (idb x y z ++ R) sp w) :
    Calls Try.prog 50 #[.pointer (some ⟨b, 0, none⟩)] w fun e w' => e = .returned (.agg (idc x y z)) ∧ Rd b R sp w' ∧ But b w w' := by
  have hlt := h.lt
  obtain ⟨V, hV⟩ : ∃ V, V = w.heap.size + 1 := ⟨_, rfl⟩
  obtain ⟨w0, hw0⟩ : ∃ w0, (w.alloc (.cells (idc 0 0 0) 24)).alloc (.cells (idc 0 0 0) 24) = w0 := ⟨_, rfl⟩
  have A0 : Blk w.heap.size (idc 0 0 0) 24 w0 := by rw [← hw0]; exact (blk_new w _ _).alloc _
  have V0 : Blk V (idc 0 0 0) 24 w0 := by
    have h := blk_new (w.alloc (.cells (idc 0 0 0) 24)) (idc 0 0 0) 24
    have hz : (w.alloc (.cells (idc 0 0 0) 24)).heap.size = w.heap.size + 1 := by simp
    rw [hz, hw0, ← hV] at h; exact h
  have u0 : But b w w0 := by rw [← hw0]; exact (But.alloc b w _).trans (But.alloc b _ _)
  have R0 : Rd b (Pack.digits 4 x ++ (Pack.digits 1 y ++ (Pack.digits 4 z ++ R))) sp w0 := by
    have h2 : Rd b (idb x y z ++ R) sp w0 := by rw [← hw0]; exact (Blk.alloc (Blk.alloc h _) _)
    simpa [idb] using h2
  have hn1 : w.heap.size ≠ V := by omega
  have hn2 : V ≠ b := by omega
  have hn3 : w.heap.size ≠ b := by omega
  have KV : Hid (V = w.heap.size + 1) := hV
  have kx : Hid (x < 4294967296) := hx
  have ky : Hid (y < 256) := hy
  have kz : Hid (z < 4294967296) := hz
  have kl : Hid (R.length ≤ 800) := hl
  have hzz : (w.alloc (.cells (idc 0 0 0) 24)).heap.size = V := by rw [hV]; simp
  have hz2 : w.heap.size + 1 = V := hV.symm
  clear hV hx hy hz hl h hlt
  go_enter Try.func50, Try.ntmps50
  go_wp2_with (refine alloc_id rfl rfl ?_)
  refine (number4_rd b x _ sp kx.out (by simp only [List.length_append, Pack.digits_length]; have := kl.out; omega) _ R0).mono ?_
  rintro e w1 ⟨rfl, R1, u1⟩
  have A1 := A0.but u1 hn3
  have V1 := V0.but u1 hn2
  have c1 := V1.cell 0 (.int .u32 ((0 : Nat) : Int)) rfl
  have f1 := V1.free 0
  obtain ⟨W1, e1⟩ : ∃ W, w1.setCell ⟨V, 0, none⟩ (.int .u32 (x : Int)) = W := ⟨_, rfl⟩
  have V1' : Blk V (idc x 0 0) 24 W1 := by rw [← e1]; exact blk_set V1 0 _
  have t1 : But V w1 W1 := by rw [← e1]; exact But.setCell V 0 w1 _
  have A1' := A1.but t1 hn1
  have R1' := R1.but t1 hn2.symm
  have u1' := (u0.trans u1).new t1 (by have := KV.out; omega)
  clear A0 A1 V0 V1 R0 R1 u0 u1 t1 hw0
  go_wp2_with fail
  refine (number1_rd b y _ sp ky.out (by simp only [List.length_append, Pack.digits_length]; have := kl.out; omega) _ R1').mono ?_
  rintro e w2 ⟨rfl, R2, u2⟩
  clear c1 f1 e1
  have A2 := A1'.but u2 hn3
  have V2 := V1'.but u2 hn2
  have c2 := V2.cell 1 (.int .u32 ((0 : Nat) : Int)) rfl
  have f2 := V2.free 1
  obtain ⟨W2, e2⟩ : ∃ W, w2.setCell ⟨V, 1, none⟩ (.int .u32 (y : Int)) = W := ⟨_, rfl⟩
  have V2' : Blk V (idc x y 0) 24 W2 := by rw [← e2]; exact blk_set V2 1 _
  have t2 : But V w2 W2 := by rw [← e2]; exact But.setCell V 1 w2 _
  have A2' := A2.but t2 hn1
  have R2' := R2.but t2 hn2.symm
  have u2' := (u1'.trans u2).new t2 (by have := KV.out; omega)
  clear A1' A2 V1' V2 R1' R2 u1' u2 t2
  go_wp2_with fail
  refine (number4_rd b z _ sp kz.out (by have := kl.out; omega) _ R2').mono ?_
  rintro e w3 ⟨rfl, R3, u3⟩
  clear c2 f2 e2
  have A3 := A2'.but u3 hn3
  have V3 := V2'.but u3 hn2
  have c3 := V3.cell 2 (.int .u32 ((0 : Nat) : Int)) rfl
  have f3 := V3.free 2
  obtain ⟨W3, e3⟩ : ∃ W, w3.setCell ⟨V, 2, none⟩ (.int .u32 (z : Int)) = W := ⟨_, rfl⟩
  have V3' : Blk V (idc x y z) 24 W3 := by rw [← e3]; exact blk_set V3 2 _
  have t3 : But V w3 W3 := by rw [← e3]; exact But.setCell V 2 w3 _
  have A3' := A3.but t3 hn1
  have R3' := R3.but t3 hn2.symm
  have u3' := (u2'.trans u3).new t3 (by have := KV.out; omega)
  clear A2' A3 V2' V3 R2' R3 u2' u3 t3
  go_wp2_with (first | refine load_blk rfl 24 _ rfl V3' rfl Try.underlying24 rfl (by rw [idc_size]; exact sizeId) ?_ | (refine store_part (off := 0) rfl 24 _ _ rfl A3' rfl rfl (by rw [idc_size]; exact sizeId) (by rw [idc_size, idc_size]; omega) (idc_one _ _ _) ?_; intro W4 A4 u4))
  refine bodyPost_ret (ret_cells Try.results50 rfl A4 Try.underlying24 rfl (by rw [putAt_size, idc_size]; exact sizeId)) rfl ⟨rfl, R3'.but u4 hn3.symm, u3'.new u4 (Nat.le_refl _)⟩

def upto (g : Nat → Nat) (m : Nat) (i : Nat) : Nat := if i < m then g i else 0
theorem upto_set (g : Nat → Nat) (m : Nat) (hm : m < 8) : (rowc (upto g m) 0).setIfInBounds m (.int .u32 (g m : Int)) = rowc (upto g (m + 1)) 0 := by
  obtain rfl | rfl | rfl | rfl | rfl | rfl | rfl | rfl : m = 0 ∨ m = 1 ∨ m = 2 ∨ m = 3 ∨ m = 4 ∨ m = 5 ∨ m = 6 ∨ m = 7 := by omega
  all_goals kernel_rfl
theorem upto_all (n : Nat → Nat) (o : Nat) : rowc (upto (fun i => n (o + i)) 8) 0 = rowc n o := by kernel_rfl
theorem upto_none (g : Nat → Nat) : rowc (fun _ => 0) 0 = rowc (upto g 0) 0 := by kernel_rfl
theorem rown_drop (n : Nat → Nat) (o m : Nat) (hm : m < 8) : nums 4 ((rown n o).drop m) = Pack.digits 4 (n (o + m)) ++ nums 4 ((rown n o).drop (m + 1)) := by
  have hl : (rown n o).length = 8 := rfl
  have h : m < (rown n o).length := by omega
  rw [List.drop_eq_getElem_cons h]
  have := rown_get n o m hm
  rw [List.getElem?_eq_getElem h] at this
  rw [Option.some.inj this]
  rfl

set_option maxHeartbeats 2000000 in
theorem row_rd (b o : Nat) (n : Nat → Nat) (R : List UInt8) (sp : Bool) (hn : ∀ i, n i < 4294967296) (hl : R.length ≤ 800) (w : World) (h : Rd b (nums 4 (rown n o) ++ R) sp w) :
    Calls Try.prog 51 #[.pointer (some ⟨b, 0, none⟩)] w fun e w' => e = .returned (.agg (rowc n o)) ∧ Rd b R sp w' ∧ But b w w' := by
  obtain ⟨g, hg⟩ : ∃ g : Nat → Nat, g = fun i => n (o + i) := ⟨_, rfl⟩
  have hlt := h.lt
  obtain ⟨V, hV⟩ : ∃ V, V = w.heap.size + 1 := ⟨_, rfl⟩
  obtain ⟨w0, hw0⟩ : ∃ w0, (w.alloc (.cells (rowc (fun _ => 0) 0) 25)).alloc (.cells (rowc (fun _ => 0) 0) 25) = w0 := ⟨_, rfl⟩
  have A0 : Blk w.heap.size (rowc (fun _ => 0) 0) 25 w0 := by rw [← hw0]; exact (blk_new w _ _).alloc _
  have V0 : Blk V (rowc (upto g 0) 0) 25 w0 := by
    have h := blk_new (w.alloc (.cells (rowc (fun _ => 0) 0) 25)) (rowc (fun _ => 0) 0) 25
    have hz : (w.alloc (.cells (rowc (fun _ => 0) 0) 25)).heap.size = w.heap.size + 1 := by simp
    rw [hz, hw0, ← hV] at h; rw [← upto_none]; exact h
  have u0 : But b w w0 := by rw [← hw0]; exact (But.alloc b w _).trans (But.alloc b _ _)
  have R0 : Rd b (nums 4 ((rown n o).drop 0) ++ R) sp w0 := by
    rw [← hw0]; exact (Blk.alloc (Blk.alloc h _) _)
  have hn1 : w.heap.size ≠ V := by omega
  have hn2 : V ≠ b := by omega
  have hn3 : w.heap.size ≠ b := by omega
  have KV : Hid (V = w.heap.size + 1) := hV
  have kn : Hid (∀ i, n i < 4294967296) := hn
  have kl : Hid (R.length ≤ 800) := hl
  have kg : Hid (g = fun i => n (o + i)) := hg
  have hzz : (w.alloc (.cells (rowc (fun _ => 0) 0) 25)).heap.size = V := by rw [hV]; simp
  have hz2 : w.heap.size + 1 = V := hV.symm
  clear hV hn hl h hlt hg
  go_enter Try.func51, Try.ntmps51
  go_wp2_with (refine alloc_row rfl rfl ?_)
  go_loopw [5] (fun i w' => ∃ m : Nat, m ≤ 8 ∧ i = .int .i64 m ∧ But b w w' ∧ Blk w.heap.size (rowc (fun _ => 0) 0) 25 w' ∧ Blk V (rowc (upto g m) 0) 25 w' ∧ Rd b (nums 4 ((rown n o).drop m) ++ R) sp w') (fun i _ => 8 - (intOf i).toNat)
  case atStart => exact ⟨0, by omega, rfl, u0, A0, V0, R0⟩
  case round =>
    clear u0 A0 V0 R0 hw0
    obtain ⟨m, hm, rfl, u0, A0, V0, R0⟩ := hrel
    by_cases hlt : m < 8
    · have d1 : (m : Int) < 8 := by omega
      rw [rown_drop n o m hlt, List.append_assoc] at R0
      have hgm : g m = n (o + m) := by rw [kg.out]
      have hnum := number4_rd b (n (o + m)) _ sp (kn.out _) (by
        rw [List.length_append, nums_length, List.length_drop]
        have := kl.out
        have : (rown n o).length = 8 := rfl
        omega) _ R0
      rw [← hgm] at hnum
      clear hgm R0
      go_wp2_with fail
      refine hnum.mono ?_
      clear hnum
      rintro e w1 ⟨rfl, R1, u1⟩
      have A1 := A0.but u1 hn3
      have V1 := V0.but u1 hn2
      have c1 : w1.cell? ⟨V, m, none⟩ = some (.int .u32 ((0 : Nat) : Int)) := V1.cell m _ (by
        rw [row_get _ 0 m hlt]
        simp [upto])
      have f1 := V1.free m
      obtain ⟨W1, e1⟩ : ∃ W, w1.setCell ⟨V, m, none⟩ (.int .u32 (g m : Int)) = W := ⟨_, rfl⟩
      have V1' : Blk V (rowc (upto g (m + 1)) 0) 25 W1 := by rw [← e1, ← upto_set g m hlt]; exact blk_set V1 m _
      have t1 : But V w1 W1 := by rw [← e1]; exact But.setCell V m w1 _
      have A1' := A1.but t1 hn1
      have R1' := R1.but t1 hn2.symm
      have u1' := (u0.trans u1).new t1 (by have := KV.out; omega)
      clear A0 A1 V0 V1 R1 u0 u1 t1
      go_wp2_with fail
      refine ⟨⟨m + 1, by omega, by go_num, u1', A1', V1', R1'⟩, by simp [intOf]; omega⟩
    · obtain rfl : m = 8 := by omega
      have R1 : Rd b R sp _ := R0
      rw [kg.out, upto_all] at V0
      clear R0
      go_wp2_with (first | refine load_blk rfl 25 _ rfl V0 rfl Try.underlying25 rfl (by rw [rowc_size]; exact sizeRow) ?_ | (refine store_part (off := 0) rfl 25 _ _ rfl A0 rfl rfl (by rw [rowc_size]; exact sizeRow) (by rw [rowc_size, rowc_size]; omega) (rowc_one _ _) ?_; intro W4 A4 u4))
      refine bodyPost_ret (ret_cells Try.results51 rfl A4 Try.underlying25 rfl (by rw [putAt_size, rowc_size]; exact sizeRow)) rfl ⟨rfl, R1.but u4 hn3.symm, u0.new u4 (Nat.le_refl _)⟩

set_option maxHeartbeats 1000000 in
theorem flag_rd (b t : Nat) (R : List UInt8) (sp : Bool) (ht : t < 256) (hl : R.length ≤ 800) (w : World) (h : Rd b (Pack.digits 1 t ++ R) sp w) :
    Calls Try.prog 52 #[.pointer (some ⟨b, 0, none⟩)] w fun e w' => e = .returned (.bool (decide (t = 1))) ∧ Rd b R (sp || decide (1 < t)) w' ∧ But b w w' := by
  have hnum := number1_rd b t R sp ht (by omega) w h
  have kt : Hid (t < 256) := ht
  clear ht hl h
  by_cases h1 : 1 < t
  · have g1 : (1 : Int) < (t : Int) := by omega
    have g2 : ((t : Int) == 1) = false := by rw [beq_eq_false_iff_ne]; omega
    have r1 : decide (t = 1) = false := by simp; omega
    have r2 : (sp || decide (1 < t)) = true := by simp [h1]
    rw [r1, r2]
    clear r1 r2 h1
    go_enter Try.func52, Try.ntmps52
    go_wp2_with fail
    refine hnum.mono ?_
    rintro e w1 ⟨rfl, R1, u1⟩
    have c1 := Blk.cell R1 1 (.bool sp) rfl
    have f1 := Blk.free R1 1
    obtain ⟨W1, e1⟩ : ∃ W, w1.setCell ⟨b, 1, none⟩ (.bool true) = W := ⟨_, rfl⟩
    have R1' : Rd b R true W1 := by rw [← e1]; exact blk_set R1 1 _
    have u1' : But b w W1 := by rw [← e1]; exact u1.trans (But.setCell b 1 w1 _)
    clear R1 u1 hnum
    go_wp2_with fail
    go_ret
    exact ⟨rfl, R1', u1'⟩
  · have g1 : ¬ (1 : Int) < (t : Int) := by omega
    have r2 : (sp || decide (1 < t)) = sp := by simp [h1]
    have r1 : ((t : Int) == 1) = decide (t = 1) := by
      rw [Bool.eq_iff_iff, beq_iff_eq, decide_eq_true_iff]; omega
    rw [r2]
    generalize decide (t = 1) = q at r1 ⊢
    clear r2 h1
    go_enter Try.func52, Try.ntmps52
    go_wp2_with fail
    refine hnum.mono ?_
    rintro e w1 ⟨rfl, R1, u1⟩
    clear hnum
    go_wp2_with fail
    go_ret
    exact ⟨rfl, R1, u1⟩

theorem frc_put_all (F G : Nat → En) : putAt (frc F) 0 (frc G).toList = frc G := by kernel_rfl

set_option maxHeartbeats 2000000 in
theorem frame_rd (b : Nat) (F R : List UInt8) (sp : Bool) (G : Nat → En) (c : Int) (hF : F.length = 168) (hl : R.length ≤ 800) (hdec : ∀ w, Calls Try.prog 65 #[.string (ba F)] w fun r w' => r = .returned (.tuple #[.agg (frc G), .int .i64 c]) ∧ Below w.heap.size w w')
    (w : World) (h : Rd b (F ++ R) sp w) :
    Calls Try.prog 53 #[.pointer (some ⟨b, 0, none⟩)] w fun e w' => e = .returned (.agg (frc G)) ∧ Rd b R (sp || (c != 0)) w' ∧ But b w w' := by
  have hlt := h.lt
  obtain ⟨w0, hw0⟩ : ∃ w0, w.alloc (.cells (frc zeroFr) 33) = w0 := ⟨_, rfl⟩
  have A0 : Blk w.heap.size (frc zeroFr) 33 w0 := by rw [← hw0]; exact blk_new w _ _
  have u0 : But b w w0 := by rw [← hw0]; exact But.alloc b w _
  have R0 : Rd b (F ++ R) sp w0 := by rw [← hw0]; exact Blk.alloc h _
  have hcut : Calls Try.prog 64 #[.pointer (some ⟨b, 0, none⟩), .int .i64 168] w0 fun e w' => e = .returned (.string (ba F)) ∧ Rd b R sp w' ∧ But b w0 w' := cut_ok b 168 F R sp hF (by omega) w0 R0
  have hn3 : w.heap.size ≠ b := by omega
  generalize ba F = sF at hcut hdec
  clear R0 h hF hl
  have hfin : ∀ (W : World) (s2 : Bool), Blk w.heap.size (frc zeroFr) 33 W → True := fun _ _ _ => trivial
  clear hfin
  cases hc : (c != 0)
  · have hc0 : c = 0 := by simpa using hc
    subst hc0
    rw [Bool.or_false]
    clear hc
    go_enter Try.func53, Try.ntmps53
    go_wp2_with (refine alloc_fr rfl rfl ?_)
    refine hcut.mono ?_
    rintro e w1 ⟨rfl, R1, u1⟩
    have A1 := A0.but u1 hn3
    clear hcut A0 hw0
    go_wp2_with fail
    refine (hdec _).mono ?_
    rintro e w2 ⟨rfl, hb2⟩
    have R2 := (R1.below hb2)
    have R3 : Rd b R sp (w2.alloc (.cells (frc G) 33)) := Blk.alloc R2 _
    have A3 := (A1.below hb2).alloc (.cells (frc G) 33)
    have V3 := blk_new w2 (frc G) 33
    have u3 := ((u0.trans u1).trans (But.of_below hb2)).trans (But.alloc b w2 (.cells (frc G) 33))
    have hlt2 : w2.heap.size ≠ w.heap.size := by have h1 := A1.lt; have h2 := hb2.size; omega
    clear R1 R2 A1 u0 u1 hb2 hdec
    obtain ⟨W3, hW3⟩ : ∃ W3, w2.alloc (.cells (frc G) 33) = W3 := ⟨_, rfl⟩
    rw [hW3] at R3 A3 V3 u3
    go_wp2_with (first | refine alloc_fr rfl rfl ?_ | (refine store_new (cells := frc G) rfl 33 _ _ rfl rfl rfl (by rw [frc_size]; exact size27) (by rw [frc_size, frc_size]) (frc_one G) ?_; rw [hW3]) | refine load_blk rfl 33 _ rfl V3 rfl Try.underlying33 rfl (by rw [frc_size]; exact size27) ?_ | (refine store_part (off := 0) rfl 33 _ _ rfl A3 rfl rfl (by rw [frc_size]; exact size27) (by rw [frc_size, frc_size]; omega) (frc_one _) ?_; intro W4 A4 u4))
    rw [frc_put_all] at A4
    refine bodyPost_ret (ret_cells Try.results53 rfl A4 Try.underlying33 rfl (by rw [frc_size]; exact size27)) rfl ⟨rfl, R3.but u4 hn3.symm, u3.new u4 (Nat.le_refl _)⟩
  · have hc1 : (c != 0) = true := hc
    rw [Bool.or_true]
    clear hc
    go_enter Try.func53, Try.ntmps53
    go_wp2_with (refine alloc_fr rfl rfl ?_)
    refine hcut.mono ?_
    rintro e w1 ⟨rfl, R1, u1⟩
    have A1 := A0.but u1 hn3
    clear hcut A0 hw0
    go_wp2_with fail
    refine (hdec _).mono ?_
    rintro e w2 ⟨rfl, hb2⟩
    have R2 := (R1.below hb2)
    have R3 : Rd b R sp (w2.alloc (.cells (frc G) 33)) := Blk.alloc R2 _
    have A3 := (A1.below hb2).alloc (.cells (frc G) 33)
    have V3 := blk_new w2 (frc G) 33
    have u3 := ((u0.trans u1).trans (But.of_below hb2)).trans (But.alloc b w2 (.cells (frc G) 33))
    have hlt2 : w2.heap.size ≠ b := by have h1 := R2.lt; omega
    clear R1 R2 A1 u0 u1 hb2 hdec
    obtain ⟨W3, hW3⟩ : ∃ W3, w2.alloc (.cells (frc G) 33) = W3 := ⟨_, rfl⟩
    rw [hW3] at R3 A3 V3 u3
    have c1 := Blk.cell R3 1 (.bool sp) rfl
    have f1 := Blk.free R3 1
    obtain ⟨W5, e5⟩ : ∃ W, W3.setCell ⟨b, 1, none⟩ (.bool true) = W := ⟨_, rfl⟩
    have t5 : But b W3 W5 := by rw [← e5]; exact But.setCell b 1 W3 _
    have R5 : Rd b R true W5 := by rw [← e5]; exact blk_set R3 1 _
    have A5 := A3.but t5 hn3
    have V5 := V3.but t5 hlt2
    have u5 := u3.trans t5
    clear R3 A3 V3 u3 t5
    go_wp2_with (first | refine alloc_fr rfl rfl ?_ | (refine store_new (cells := frc G) rfl 33 _ _ rfl rfl rfl (by rw [frc_size]; exact size27) (by rw [frc_size, frc_size]) (frc_one G) ?_; rw [hW3]) | refine load_blk rfl 33 _ rfl V5 rfl Try.underlying33 rfl (by rw [frc_size]; exact size27) ?_ | (refine store_part (off := 0) rfl 33 _ _ rfl A5 rfl rfl (by rw [frc_size]; exact size27) (by rw [frc_size, frc_size]; omega) (frc_one _) ?_; intro W4 A4 u4))
    rw [frc_put_all] at A4
    refine bodyPost_ret (ret_cells Try.results53 rfl A4 Try.underlying33 rfl (by rw [frc_size]; exact size27)) rfl ⟨rfl, R5.but u4 hn3.symm, u5.new u4 (Nat.le_refl _)⟩

end Go.Proofs.Ytmbddjejbmjmfaa
