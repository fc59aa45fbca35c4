/-
  A happening, and a core with what it tells, as plain data: their cells, parts of them, stores into them; lists of happenings.
  No condition.
-/
import Derived.Test.YthgmecgknhphmaaCeM
import Derived.Test.YthgmecgknhphmaaBase
namespace Go.Proofs.Ythgmecgknhphmaa
set_option maxRecDepth 10000
open Go.RowKit Go.Sort
set_option linter.unusedVariables false

def Hp.vals (x : Hp) : List Value := .bool x.view :: (x.k.vals ++ (x.conf.vals ++ row8 x.mem))
def Hp.arr (x : Hp) : Array Value := x.vals.toArray
def Hp.zero : Hp := ⟨false, Kt.zero, Idn.zero, noMb⟩
theorem Hp.vals_length (x : Hp) : x.vals.length = 50 := rfl
theorem Hp.arr_size (x : Hp) : x.arr.size = 50 := rfl
theorem Hp.arr_one (x : Hp) : x.arr.all (·.oneCell') = true := by kernel_rfl
theorem Hp.vals_one (x : Hp) : ∀ v ∈ x.vals, v.oneCell' = true := by
  have h := x.arr_one
  rw [Hp.arr, Array.all_eq_true'] at h
  intro v hv
  exact h v (by simpa using hv)
theorem sizeHp : (Try.prog.info? 66).map (·.size) = some 50 := by kernel_rfl
theorem zeroHp : (Try.prog.info? 66).map (fun i => (i.zero, i.size)) = some (some (.agg Hp.zero.arr), 50) := by kernel_rfl
theorem infoHp : ∃ i z, Try.prog.info? 66 = some i ∧ i.zero = some z ∧ i.size = 50 ∧ i.bytes = 408 ∧ z.cells.size = 50 := by
  have h : (Try.prog.info? 66).map (fun i => (i.zero, i.size, i.bytes)) = some (some (.agg Hp.zero.arr), 50, 408) := by kernel_rfl
  obtain ⟨i, hi, h0, h1, h2⟩ := info_parts h
  exact ⟨i, _, hi, h0, h1, h2, rfl⟩
theorem Hp.get_view (x : Hp) : x.arr[0]? = some (.bool x.view) := rfl
theorem Hp.get_fr (x : Hp) : x.arr[1]? = some (.int .i64 x.k.fr) := rfl
theorem Hp.get_rd (x : Hp) : x.arr[2]? = some (.int .u32 (x.k.rd : Int)) := rfl
theorem Hp.p_frame (x : Hp) : (x.arr.extract 3 (3 + (frv x.k.f).length)).toList = frv x.k.f := by kernel_rfl
theorem Hp.p_conf (x : Hp) : (x.arr.extract 39 (39 + x.conf.vals.length)).toList = x.conf.vals := by kernel_rfl
theorem Hp.p_mem (x : Hp) : (x.arr.extract 42 (42 + (row8 x.mem).length)).toList = row8 x.mem := by kernel_rfl
theorem Hp.get_mem (x : Hp) (i : Nat) (h : i < 8) : x.arr[42 + i]? = some (.int .u32 (x.mem i : Int)) := by
  obtain rfl | rfl | rfl | rfl | rfl | rfl | rfl | rfl : i = 0 ∨ i = 1 ∨ i = 2 ∨ i = 3 ∨ i = 4 ∨ i = 5 ∨ i = 6 ∨ i = 7 := by omega
  all_goals rfl
theorem builtTk (x : Kt) : Try.prog.built 66 [(1, .agg x.arr)] = some (takeH x).arr := by kernel_rfl
theorem builtVw (a : Idn) (m : Nat → Nat) : Try.prog.built 66 [(0, .bool true), (2, .agg a.arr), (3, .agg (mbc m))] = some (Hp.mk true Kt.zero a m).arr := by kernel_rfl

theorem bsHp (x : Hp) (w : World) : (Instr.buildSlice 44 1 #[(0, .agg x.arr)]).run Try.prog w = .ok (.slice (some ⟨w.heap.size, 0, none⟩) 1 1) (w.alloc (.cells x.arr 66)) := by kernel_rfl
theorem bsNoHp (w : World) : (Instr.buildSlice 44 0 #[]).run Try.prog w = .ok (.slice (some ⟨w.heap.size, 0, none⟩) 0 0) (w.alloc (.cells #[] 66)) := by kernel_rfl
theorem box_hp {ops : Array Oper} {rest : List Oper} {op : Oper} {a : Act} {w : World} {Q : Exit → Act → World → Prop} (hgd : op.guard = none) (y : Operand) (ho : op.op = .buildSlice 44 1 #[(0, y)]) (x : Hp) (hx : a.eval y = .agg x.arr)
    (h : wpList Try.prog ops Q rest (a.put op.dst (.slice (some ⟨w.heap.size, 0, none⟩) 1 1)) (w.alloc (.cells x.arr 66))) : wpList Try.prog ops Q (op :: rest) a w :=
  wpList_plain hgd fun _ hK => by
    have hk := hK _ _ h
    unfold Oper.wp execOp
    simp only [ho, List.map_toArray, List.map_cons, List.map_nil, hx, Sem.run_bind, Sem.run_pure, bsHp, Result.andThen_ok]
    exact hk
theorem box_nohp {ops : Array Oper} {rest : List Oper} {op : Oper} {a : Act} {w : World} {Q : Exit → Act → World → Prop} (hgd : op.guard = none) (ho : op.op = .buildSlice 44 0 #[])
    (h : wpList Try.prog ops Q rest (a.put op.dst (.slice (some ⟨w.heap.size, 0, none⟩) 0 0)) (w.alloc (.cells #[] 66))) : wpList Try.prog ops Q (op :: rest) a w :=
  wpList_plain hgd fun _ hK => by
    have hk := hK _ _ h
    unfold Oper.wp execOp
    simp only [ho, List.map_toArray, List.map_nil, Sem.run_bind, Sem.run_pure, bsNoHp, Result.andThen_ok]
    exact hk
theorem wp_hp {o : Oper} {a : Act} {w : World} {K : Act → World → Prop} {Q : Exit → Act → World → Prop} (y : Operand) (ho : o.op = .buildSlice 44 1 #[(0, y)]) (x : Hp) (hx : a.eval y = .agg x.arr)
    (h : ∀ p W, Blk p x.arr 66 W → Below w.heap.size w W → w.heap.size ≤ p → K (a.put o.dst (.slice (some ⟨p, 0, none⟩) 1 1)) W) : o.wp Try.prog a w K Q := by
  have hk := h _ _ (blk_new w x.arr 66) (below_box w _) (Nat.le_refl _)
  unfold Oper.wp execOp
  simp only [ho, List.map_toArray, List.map_cons, List.map_nil, hx, Sem.run_bind, Sem.run_pure, bsHp, Result.andThen_ok]
  exact hk

/- A core, and a list behind it. -/
def unc (c : Co) (v : Value) : Array Value := (col c ++ [v]).toArray
theorem col_len (c : Co) : (col c).length = 189 := rfl
theorem unc_size (c : Co) (v : Value) : (unc c v).size = 190 := rfl
theorem unc_one (c : Co) (a : Option Addr) (n k : Nat) : (unc c (.slice a n k)).all (·.oneCell') = true := by kernel_rfl
theorem unc_get (c : Co) (v : Value) (i : Nat) (h : i < 189) : (unc c v)[i]? = (coc c)[i]? := by
  show (col c ++ [v]).toArray[i]? = (col c).toArray[i]?
  rw [List.getElem?_toArray, List.getElem?_toArray, List.getElem?_append_left (by rw [col_len]; exact h)]
theorem unc_last (c : Co) (v : Value) : (unc c v)[189]? = some v := rfl
theorem unc_part (c : Co) (v : Value) (o : Nat) (cs : List Value) (h : ((coc c).extract o (o + cs.length)).toList = cs) (hl : o + cs.length ≤ 189) : ((unc c v).extract o (o + cs.length)).toList = cs := by
  conv => rhs; rw [← h]
  show ((col c ++ [v]).toArray.extract o (o + cs.length)).toList = ((col c).toArray.extract o (o + cs.length)).toList
  apply List.ext_getElem?
  intro j
  simp only [Array.toList_extract, List.extract_eq_take_drop, List.getElem?_take, List.getElem?_drop]
  by_cases hj : j < o + cs.length - o
  · rw [if_pos hj, if_pos hj, List.getElem?_append_left (by rw [col_len]; omega)]
  · rw [if_neg hj, if_neg hj]
theorem unc_core (c : Co) (v : Value) : ((unc c v).extract 0 (0 + (col c).length)).toList = col c := by kernel_rfl
theorem un_beat (c : Co) (v : Value) : ((unc c v).extract 3 (3 + c.beat.vals.length)).toList = c.beat.vals := unc_part c v 3 c.beat.vals c.p_beat (show 3 + 17 ≤ 189 by decide)
theorem un_conf (c : Co) (v : Value) : ((unc c v).extract 20 (20 + c.conf.vals.length)).toList = c.conf.vals := unc_part c v 20 c.conf.vals c.p_conf (show 20 + 3 ≤ 189 by decide)
theorem un_mem (c : Co) (v : Value) : ((unc c v).extract 23 (23 + (row8 c.mem).length)).toList = (row8 c.mem) := unc_part c v 23 (row8 c.mem) c.p_mem (show 23 + 8 ≤ 189 by decide)
theorem un_count (c : Co) (v : Value) : ((unc c v).extract 31 (31 + (row8 c.count).length)).toList = (row8 c.count) := unc_part c v 31 (row8 c.count) c.p_count (show 31 + 8 ≤ 189 by decide)
theorem un_pr (c : Co) (v : Value) : ((unc c v).extract 40 (40 + c.pr.vals.length)).toList = c.pr.vals := unc_part c v 40 c.pr.vals c.p_pr (show 40 + 3 ≤ 189 by decide)
theorem un_want (c : Co) (v : Value) : ((unc c v).extract 43 (43 + (row8 c.want).length)).toList = (row8 c.want) := unc_part c v 43 (row8 c.want) c.p_want (show 43 + 8 ≤ 189 by decide)
theorem un_cut (c : Co) (v : Value) : ((unc c v).extract 51 (51 + (row8 c.cut).length)).toList = (row8 c.cut) := unc_part c v 51 (row8 c.cut) c.p_cut (show 51 + 8 ≤ 189 by decide)
theorem un_peer (c : Co) (v : Value) (i : Nat) (h : i < 8) : ((unc c v).extract (60 + i * 16) (60 + i * 16 + (c.peers i).vals.length)).toList = (c.peers i).vals := unc_part c v (60 + i * 16) (c.peers i).vals (c.p_peer i h) (show 60 + i * 16 + 16 ≤ 189 by omega)
theorem unc_put (c c' : Co) (v : Value) (o : Nat) (cs : List Value) (h : putAt (coc c) o cs = coc c') (hl : o + cs.length ≤ 189) : putAt (unc c v) o cs = unc c' v := by
  apply Array.ext_getElem?
  intro j
  have hz : (coc c).size = 189 := rfl
  rw [putAt_get cs o (unc c v) j (by rw [unc_size]; omega)]
  have hj2 := congrArg (fun a : Array Value => a[j]?) h
  rw [putAt_get cs o (coc c) j (by omega)] at hj2
  by_cases hr : o ≤ j ∧ j < o + cs.length
  · rw [if_pos hr] at hj2 ⊢
    rw [hj2, unc_get c' v j (by omega)]
  · rw [if_neg hr] at hj2 ⊢
    by_cases h9 : j < 189
    · rw [unc_get c v j h9, unc_get c' v j h9, hj2]
    · by_cases h8 : j = 189
      · subst h8; rfl
      · rw [Array.getElem?_eq_none (by rw [unc_size]; omega), Array.getElem?_eq_none (by rw [unc_size]; omega)]
theorem unc_set (c c' : Co) (v : Value) (o : Nat) (x : Value) (h : (coc c).setIfInBounds o x = coc c') (hl : o < 189) : (unc c v).setIfInBounds o x = unc c' v := unc_put c c' v o [x] h (by simp; omega)
theorem unc_told (c : Co) (v x : Value) : (unc c v).setIfInBounds 189 x = unc c x := by kernel_rfl
theorem unc_all (c c' : Co) (v v' : Value) : putAt (unc c v) 0 (unc c' v').toList = unc c' v' := putAt_all _ _ rfl
theorem sizeUn : (Try.prog.info? 78).map (·.size) = some 190 := by kernel_rfl
theorem zeroUn : (Try.prog.info? 78).map (fun i => (i.zero, i.size)) = some (some (.agg (unc Co.zero (.slice none 0 0))), 190) := by kernel_rfl
theorem builtUn (c : Co) : Try.prog.built 78 [(0, .agg (coc c))] = some (unc c (.slice none 0 0)) := by kernel_rfl
theorem sizeHs : (Try.prog.info? 44).map (·.size) = some 1 := by kernel_rfl

theorem sizeSg : (Try.prog.info? 83).map (·.size) = some 190 := by kernel_rfl
theorem zeroSg : (Try.prog.info? 83).map (fun i => (i.zero, i.size)) = some (some (.agg (unc Co.zero (.slice none 0 0))), 190) := by kernel_rfl
theorem builtSg (c : Co) : Try.prog.built 83 [(0, .agg (coc c))] = some (unc c (.slice none 0 0)) := by kernel_rfl

/- A list that lies in another block than this, or has nothing. -/
def Off {α : Type} (a : Option Addr) (L : List α) (P : Nat) : Prop := L = [] ∨ P ∉ blkOf a
theorem Off.nil {α : Type} (a : Option Addr) (P : Nat) : Off a ([] : List α) P := .inl rfl
theorem Off.lg {α : Type} {f : α → List Value} {k : Nat} {T : TypeId} {B : Nat} {a : Option Addr} {cap : Nat} {L : List α} {w : World} (h : Lg f k T B a cap L w) (P : Nat) (hP : P < B ∨ w.heap.size ≤ P) : Off a L P := by
  refine .inr fun hm => ?_
  have := h.in P hm
  omega
theorem Off.li {α : Type} {f : α → List Value} {B : Nat} {a : Option Addr} {L : List α} {w : World} (h : Li f B a L w) (P : Nat) (hP : P < B ∨ w.heap.size ≤ P) : Off a L P := by
  rcases h with h | ⟨b, o, rfl, hB, hlt, _⟩
  · exact .inl h
  · refine .inr fun hm => ?_
    simp [blkOf] at hm
    omega
theorem Li.off {α : Type} {f : α → List Value} {B : Nat} {a : Option Addr} {L : List α} {S : List Nat} {w w' : World} (h : Li f B a L w) (hk : Kp S w w') (ho : ∀ P ∈ S, Off a L P) : Li f B a L w' := by
  rcases h with h | ⟨b, o, rfl, hB, hlt, hr⟩
  · exact .inl h
  · by_cases hL : L = []
    · exact .inl hL
    · refine .inr ⟨b, o, rfl, hB, Nat.lt_of_lt_of_le hlt hk.size, range_block hr (hk.block b hlt fun hm => ?_)⟩
      rcases ho b hm with h | h
      · exact hL h
      · exact h (by simp [blkOf])
theorem Off.other {α : Type} {a b : Option Addr} {L : List α} {n : Nat} {f : α → List Value} {B : Nat} {w : World} (h : ∀ g ∈ blkOf b, Off a L g) (hl : Li f B a L w) (hn : w.heap.size ≤ n) {b' : Option Addr} (hb : ∀ A ∈ blkOf b', A ∈ blkOf b ∨ n ≤ A) : ∀ g ∈ blkOf b', Off a L g := by
  intro g hg
  rcases hb g hg with h' | h'
  · exact h g h'
  · exact Off.li hl g (.inr (by omega))

/- A core under way lies at P: its cells, what it keeps, what it tells. -/
def Uw (T : TypeId) (P : Nat) (s : Sg) (w : World) : Prop :=
  ∃ a k ta tk, Blk P (unc (s.c.kp a s.L.length k) (.slice ta s.t.length tk)) T w ∧ Li Kt.vals 0 a s.L w ∧ Lg Hp.vals 50 66 (P + 1) ta tk s.t w ∧ Off a s.L P ∧ ∀ g ∈ blkOf ta, Off a s.L g

theorem Uw.lt {T : TypeId} {P : Nat} {s : Sg} {w : World} (h : Uw T P s w) : P < w.heap.size := by
  obtain ⟨_, _, _, _, h, _⟩ := h
  exact h.lt
theorem Uw.below {T : TypeId} {P : Nat} {s : Sg} {w w' : World} (h : Uw T P s w) (hb : Below w.heap.size w w') : Uw T P s w' := by
  obtain ⟨a, k, ta, tk, h1, h2, h3, h4, h5⟩ := h
  exact ⟨a, k, ta, tk, h1.below hb, h2.below hb, h3.below hb, h4, h5⟩
theorem Uw.drew {T : TypeId} {P : Nat} {s : Sg} {w : World} (h : Uw T P s w) : Uw T P s w.drew := h.below (Below.refl _ _).drew

theorem info_core : (Try.prog.info? 35).map (·.size) = some 189 := sizeCo

end Go.Proofs.Ythgmecgknhphmaa
