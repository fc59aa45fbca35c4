/-
  Entries in lists: slices of one and of none, lists as arguments; slices.Clone, IndexFunc and DeleteFunc of entries, by any question that captures one variable.
  Each theorem says its own conditions.
-/
import Derived.Test.YtkppidcamhbddaaEn
import Derived.Test.YtkppidcamhbddaaLw
import Derived.Test.YtkppidcamhbddaaLn
namespace Go.Proofs.Ytkppidcamhbddaa
set_option maxRecDepth 10000
set_option linter.unusedSimpArgs false
open Go.ChangeShapes Go.WideShapes Go.ChangeAt Go.RowKit Go.WideElems Go.Sort
set_option linter.unusedVariables false
set_option linter.unusedSimpArgs false

def En.fit (e : En) : Prop := (-9223372036854775808 ≤ e.k ∧ e.k ≤ 9223372036854775807) ∧ (-9223372036854775808 ≤ e.sv ∧ e.sv ≤ 9223372036854775807) ∧ (-9223372036854775808 ≤ e.g ∧ e.g ≤ 9223372036854775807) ∧ e.se < 18446744073709551616 ∧ e.n < 18446744073709551616 ∧ e.t.size ≤ 140737488351232

theorem bsEn0 (w : World) : (Instr.buildSlice 22 0 #[]).run Try.prog w = .ok (.slice (some ⟨w.heap.size, 0, none⟩) 0 0) (w.alloc (.cells #[] 36)) := by kernel_rfl
/- A slice of one, as what is appended; an empty one. -/
theorem box_En {ops : Array Oper} {rest : List Oper} {op : Oper} {a : Act} {w : World} {Q : Exit → Act → World → Prop} (hgd : op.guard = none) (x : Operand) (ho : op.op = .buildSlice 22 1 #[(0, x)]) (e : En) (hx : a.eval x = .agg e.arr)
    (h : ∀ W, Li En.vals w.heap.size (some ⟨w.heap.size, 0, none⟩) [e] W → Below w.heap.size w W → wpList Try.prog ops Q rest (a.put op.dst (.slice (some ⟨w.heap.size, 0, none⟩) 1 1)) W) : wpList Try.prog ops Q (op :: rest) a w :=
  wpList_plain hgd fun _ hK => by
    have hk := hK _ _ (h _ (li_box (f := En.vals) w e 36 _ (Nat.le_refl _)) (below_box w _))
    unfold Oper.wp execOp
    simp only [ho, List.map_toArray, List.map_cons, List.map_nil, hx, Sem.run_bind, Sem.run_pure, bsEn, Result.andThen_ok]
    exact hk
theorem box_En0 {ops : Array Oper} {rest : List Oper} {op : Oper} {a : Act} {w : World} {Q : Exit → Act → World → Prop} (hgd : op.guard = none) (ho : op.op = .buildSlice 22 0 #[])
    (h : wpList Try.prog ops Q rest (a.put op.dst (.slice (some ⟨w.heap.size, 0, none⟩) 0 0)) (w.alloc (.cells #[] 36))) : wpList Try.prog ops Q (op :: rest) a w :=
  wpList_plain hgd fun _ hK => by
    have hk := hK _ _ h
    unfold Oper.wp execOp
    simp only [ho, List.map_toArray, List.map_nil, Sem.run_bind, Sem.run_pure, bsEn0, Result.andThen_ok]
    exact hk

theorem wp_En0 {op : Oper} {a : Act} {w : World} {K : Act → World → Prop} {Q : Exit → Act → World → Prop} (ho : op.op = .buildSlice 22 0 #[])
    (h : ∀ g W, Lg En.vals 6 36 g (some ⟨g, 0, none⟩) 0 [] W → Below w.heap.size w W → w.heap.size ≤ g → g < W.heap.size → K (a.put op.dst (.slice (some ⟨g, 0, none⟩) 0 0)) W) : op.wp Try.prog a w K Q := by
  have hk := h _ _ (Lg.of (Ow.empty (blk_new w #[] 36)) (Nat.le_refl _)) (below_box w _) (Nat.le_refl _) (by simp)
  unfold Oper.wp execOp
  simp only [ho, List.map_toArray, List.map_nil, Sem.run_bind, Sem.run_pure, bsEn0, Result.andThen_ok]
  exact hk
theorem wp_En {op : Oper} {a : Act} {w : World} {K : Act → World → Prop} {Q : Exit → Act → World → Prop} (x : Operand) (ho : op.op = .buildSlice 22 1 #[(0, x)]) (e : En) (hx : a.eval x = .agg e.arr)
    (h : ∀ g W, Li En.vals 0 (some ⟨g, 0, none⟩) [e] W → Below w.heap.size w W → K (a.put op.dst (.slice (some ⟨g, 0, none⟩) 1 1)) W) : op.wp Try.prog a w K Q := by
  have hk := h _ _ (li_box (f := En.vals) w e 36 0 (Nat.zero_le _)) (below_box w _)
  unfold Oper.wp execOp
  simp only [ho, List.map_toArray, List.map_cons, List.map_nil, hx, Sem.run_bind, Sem.run_pure, bsEn, Result.andThen_ok]
  exact hk


section
variable {H : Type} {enc : TypeId × Value → H} {W : World} {base : Nat} {spare : Nat → Bool} {held : Bool}
theorem cellsEnW {cs : List Value} {fuel : Nat} {x : DataW H × List MemPlace} (h : DataW.trod enc Try.prog W base spare held fuel 36 cs = some x) (hw : ∀ n ∈ x.1.weights Try.prog 36, n ≤ reachBytes) : ∃ e : En, cs = e.vals ∧ e.fit := by
  have hC : Try.prog.cellsOf 36 = 6 := by kernel_rfl
  have hci64 : Try.prog.cellsOf 3 = 1 := by kernel_rfl
  have hcu64 : Try.prog.cellsOf 23 = 1 := by kernel_rfl
  have hcstring : Try.prog.cellsOf 9 = 1 := by kernel_rfl
  have hu : Try.prog.underlying 36 = some (.struct (Try.prog.fieldsOf 36)) := by kernel_rfl
  have hf : (Try.prog.fieldsOf 36).toList.map (·.type) = [3, 3, 3, 23, 23, 9] := by kernel_rfl
  obtain ⟨xs, m, _, hx, hlen, hl, hg⟩ := DataW.trod_struct Try.underlying36 h
  rw [hC] at hlen
  match cs, hlen with
  | [c0, c1, c2, c3, c4, c5], _ =>
    match xs, hl with
    | [y0, y1, y2, y3, y4, y5], _ =>
      have g0 := hg 0 _ rfl
      have g1 := hg 1 _ rfl
      have g2 := hg 2 _ rfl
      have g3 := hg 3 _ rfl
      have g4 := hg 4 _ rfl
      have g5 := hg 5 _ rfl
      simp [hci64, hcu64, hcstring] at g0 g1 g2 g3 g4 g5
      obtain ⟨x0, e0, _, w0⟩ := DataW.trod_int Try.underlying3 g0
      have f0 := i64_of x0 w0
      obtain ⟨x1, e1, _, w1⟩ := DataW.trod_int Try.underlying3 g1
      have f1 := i64_of x1 w1
      obtain ⟨x2, e2, _, w2⟩ := DataW.trod_int Try.underlying3 g2
      have f2 := i64_of x2 w2
      obtain ⟨x3, e3, _, w3⟩ := DataW.trod_int Try.underlying23 g3
      obtain ⟨x3, rfl, f3⟩ := u64_nat x3 w3
      obtain ⟨x4, e4, _, w4⟩ := DataW.trod_int Try.underlying23 g4
      obtain ⟨x4, rfl, f4⟩ := u64_nat x4 w4
      obtain ⟨x5, e5, z5, _⟩ := DataW.trod_string Try.underlying9 g5
      have f5 : x5.size ≤ 140737488351232 := by
        have := hw x5.data.toList.length (by
          rw [hx]
          simp only [DataW.weights, hu, hf]
          exact DataW.weights_mem_each (j := 5) rfl rfl _ (by simp [z5, DataW.weights]))
        rw [Array.length_toList] at this
        exact this
      simp at e0 e1 e2 e3 e4 e5
      subst e0 e1 e2 e3 e4 e5
      exact ⟨⟨x0, x1, x2, x3, x4, x5⟩, rfl, f0, f1, f2, f3, f4, f5⟩
theorem open_EnW {v : Value} {d : DataW H} {p : List MemPlace} (hv : ∃ cs, v = .agg cs) (hw : ∀ n ∈ d.weights Try.prog 36, n ≤ reachBytes) (h : DataW.Trod enc Try.prog W base spare held 36 v d p) : ∃ x : En, v = .agg x.arr ∧ x.fit := by
  obtain ⟨cs, rfl⟩ := hv
  obtain ⟨fuel, hf⟩ := h
  obtain ⟨e, he, hfit⟩ := cellsEnW hf hw
  refine ⟨e, ?_, hfit⟩
  simp [Value.cells] at he
  show Value.agg cs = _
  congr 1
  exact Array.ext' (by rw [he]; rfl)
end

section
variable {H : Type} {enc : TypeId × Value → H} {W : World} {base : Nat} {spare : Nat → Bool} {held : Bool}
theorem open_EnsW {v : Value} {d : DataW H} {p : List MemPlace} (hv : ∃ a n c, v = .slice a n c) (hw : ∀ n ∈ d.weights Try.prog 22, n ≤ reachBytes) (h : DataW.Trod enc Try.prog W base spare held 22 v d p) :
    ∃ (a : Option Addr) (L : List En) (c : Nat), v = .slice a L.length c ∧ L.length * 56 ≤ 140737488351232 ∧ L.length ≤ c ∧ c ≤ maxLen ∧ (∀ x ∈ L, x.fit) ∧ Li En.vals 0 a L W :=
  open_liw En.zero En.vals_length (by decide) Try.underlying22 (by kernel_rfl) (by kernel_rfl) cellsEnW hv hw h
end

/- A list that was made since there were B blocks. -/
def MadeEn (L : List En) (B : Nat) (e : Ending) (w' : World) : Prop := ∃ a c, e = .returned (.slice a L.length c) ∧ Lg En.vals 6 36 B a c L w'

set_option maxHeartbeats 1000000 in
theorem eclone_ok (L : List En) (la : Option Addr) (lc : Nat) (hl : L.length * 56 ≤ 140737488355328) (w : World) (hS : Li En.vals 0 la L w) : Calls Try.prog 20 #[.slice la L.length lc] w fun e w' => MadeEn L w.heap.size e w' ∧ Below w.heap.size w w' := by
  obtain ⟨iI, zI, hI, hz0, hsz, hby, hzs⟩ := infoEn
  cases la with
  | none =>
    obtain rfl : L = [] := by
      rcases hS with h | ⟨_, _, h, _⟩
      · exact h
      · cases h
    have HC : MadeEn [] w.heap.size (.returned (.slice none 0 0)) w := ⟨none, 0, rfl, Lg.none _ _ _⟩
    have hq : ∀ w, (binOp .eql 22 (.slice none 0 lc) (.slice none 0 0)).run Try.prog w = .ok (.bool true) w := fun w => by kernel_rfl
    clear hS hI
    show Calls Try.prog 20 #[.slice none 0 lc] w _
    go_enter Try.func20, Try.ntmps20
    go_wp2_with fail
    go_ret
    exact ⟨HC, Below.refl _ _⟩
  | some ad =>
    have b1 := blk_new w #[] 36
    have hB : Below w.heap.size w (w.alloc (.cells #[] 36)) := below_box w _
    have hS1 := hS.below hB
    have hx := hS1.src (P := Try.prog) En.vals_length En.vals_one Try.underlying22 lc
    have ho : Ow En.vals 6 36 w.heap.size 0 [] (w.alloc (.cells #[] 36)) := Ow.empty b1
    obtain ⟨n, hn⟩ : ∃ n, Hid (L.length = n) := ⟨_, rfl⟩
    rw [hn.out] at hl hx ⊢
    have hq : ∀ w, (binOp .eql 22 (.slice (some ad) n lc) (.slice none 0 0)).run Try.prog w = .ok (.bool false) w := fun w => by kernel_rfl
    clear hS hS1 b1
    go_enter Try.func20, Try.ntmps20
    go_wp2_with (first | refine box_En0 rfl rfl ?_ | (refine append_ow En.vals_length rfl _ _ rfl Try.underlying22 hI hz0 hsz hby hzs ho rfl (M := L) (by rw [hn.out]; exact hx) rfl (by simp [hn.out]; omega) (by simp [maxLen, hn.out]; omega) ?_; intro g' cap' w5 hg5 hb5 hc5; have hB6 : Below w.heap.size w w5 := hB.trans (hb5.below (by simp) hB.size)))
    go_ret
    refine ⟨⟨some ⟨g', 0, none⟩, cap', by simp, Lg.of (by simpa using hg5) (by rcases hc5 with rfl | h <;> simp at * <;> omega)⟩, hB6⟩

/- What IndexFunc hands back: the first one's place, or -1. -/
def IxEn (q : En → Bool) (L : List En) (e : Ending) : Prop := (∃ j k, e = .returned (.int .i64 ((j : Nat) : Int)) ∧ L[j]? = some k ∧ q k = true ∧ ∀ k' ∈ L.take j, q k' = false) ∨ (e = .returned (.int .i64 (-1)) ∧ ∀ k ∈ L, q k = false)

theorem elemEn : Try.prog.elem 22 = 36 := by kernel_rfl
theorem sizeOfEn (w : World) : (sizeOf 36).run Try.prog w = .ok 6 w := by kernel_rfl
theorem zeroOfEn (w : World) : (zeroValue 36).run Try.prog w = .ok (.agg En.zero.arr) w := by kernel_rfl
def DelEn (q : En → Bool) (L : List En) (B : Nat) (ad : Option Addr) (cap : Nat) (e : Ending) (w' : World) : Prop := e = .returned (.slice ad (offL q L).length cap) ∧ Lg En.vals 6 36 B ad cap (offL q L) w'

set_option maxHeartbeats 2000000 in
theorem edel_ok (L : List En) (i j : Nat) (hij : i < j) (hj : j ≤ L.length) (g cap : Nat) (w : World) (hO : Ow En.vals 6 36 g cap L w) :
    Calls Try.prog 21 #[.slice (some ⟨g, 0, none⟩) L.length cap, .int .i64 (i : Int), .int .i64 (j : Int)] w fun e w' => e = .returned (.slice (some ⟨g, 0, none⟩) (L.take i ++ L.drop j).length cap) ∧ Ow En.vals 6 36 g cap (L.take i ++ L.drop j) w' ∧ Kp [g] w w' := by
  obtain ⟨iI, zI, hI, hz0, hsz, hby, hzs⟩ := infoEn
  have hcap := hO.len
  obtain ⟨m, hm⟩ : ∃ m, Hid (L.length = m) := ⟨_, rfl⟩
  rw [hm.out] at hj hcap ⊢
  obtain ⟨hcap, hmax⟩ := hcap
  simp only [maxLen] at hmax
  obtain ⟨q, hq⟩ : ∃ q, Hid (m - j = q) := ⟨_, rfl⟩
  obtain ⟨p, hp⟩ : ∃ p, Hid (i + q = p) := ⟨_, rfl⟩
  have pm : p < m := by have := hq.out; have := hp.out; omega
  have l1 : Hid ((L.take i).length = i) := by show _ = i; rw [List.length_take, hm.out]; omega
  have l2 : Hid ((L.drop j).length = q) := by show _ = q; rw [List.length_drop, hm.out]; exact hq.out
  have l3 : Hid ((L.take i ++ L.drop j).length = p) := by show _ = p; rw [List.length_append, l1.out, l2.out]; exact hp.out
  have i0 : (0 : Int) ≤ (i : Int) := by omega
  have j0 : (0 : Int) ≤ (j : Int) := by omega
  have i1 : (i : Int) ≤ (j : Int) := by omega
  have j1 : (j : Int) ≤ (m : Int) := by omega
  have m1 : (m : Int) ≤ (cap : Int) := by omega
  have i2 : (i : Int) ≤ (cap : Int) := by omega
  have e0 : ((i : Int) == (j : Int)) = false := by rw [beq_eq_false_iff_ne]; omega
  rw [l3.out]
  go_enter Try.func21, Try.ntmps21
  go_upto_region 5 with fail
  try simp only [Act.put, List.setIfInBounds_toArray, List.set_cons_zero, List.set_cons_succ]
  clear e0
  replace hO := hO.below (Below.drew (Below.refl w.heap.size w))
  refine wp_region_held_drew (S := fun v => Kp [g] w v) (by kernel_rfl) (Kp.drew _ w) (fun hHeld => ?_)
  refine tkQ 0 hHeld ?_
  try simp only [yy]
  refine tkQ 1 hHeld ?_
  try simp only [yy]
  refine tkQ 2 hHeld ?_
  try simp only [yy]
  refine tkQ 3 hHeld ?_
  try simp only [yy]
  refine tkQ 4 hHeld ?_
  try simp only [yy]
  refine wpAnyH_take (i := 5) (v := .slice (cutA (some ⟨g, 0, none⟩) cap j 6) q (cap - j)) rfl (by kernel_rfl) (by kernel_rfl) (by kernel_rfl) (fun _ _ _ h => h) (by rw [← hq.out]; exact yields_cut (by rfl) _ _ rfl Try.underlying22 elemEn sizeOfEn hj rfl rfl) hHeld ?restd5
  try simp only [yy]
  refine rd1 6 (fun K hK => ?_)
  rw [if_pos (by rfl)]
  have hx := ((hO.li (Nat.zero_le g)).cut En.vals_length cap j (by rw [hm.out]; exact hcap) (by rw [hm.out]; exact hj)).src (P := Try.prog) En.vals_length En.vals_one Try.underlying22 (cap - j)
  rw [l2.out] at hx
  refine wp_append_in En.vals_length _ _ rfl Try.underlying22 hI hsz (hO.take En.vals_length i (by rw [hm.out]; omega)) l1.out rfl l2.out hx rfl hp.out (by omega) ?_
  intro u1 hO1 hk1
  refine hK.out _ _ (hHeld.trans hk1) (fun hHeld => ?_)
  clear hK K hx hk1 hO
  try simp only [yy]
  refine tkQ 7 hHeld ?_
  try simp only [yy]
  refine wpAnyH_done (by kernel_rfl) ?_ _
  obtain ⟨C, hC, hCs⟩ := hO1.blk
  obtain ⟨cur, hC, _, _, hsz2, _⟩ := id hO1
  have hs8 : p * 6 + (m - p) * 6 ≤ cur.size := by rw [hsz2]; omega
  have hf8 : p * 6 + (flat En.vals (List.replicate (m - p) En.zero)).length ≤ cap * 6 := by rw [flat_length En.vals_length, List.length_replicate]; omega
  have hT : (L.take i ++ L.drop j).take p = L.take i ++ L.drop j := List.take_of_length_le (by rw [l3.out]; exact Nat.le_refl _)
  have hpL : p ≤ (L.take i ++ L.drop j).length := by rw [l3.out]; exact Nat.le_refl _
  clear hsz2
  go_wp2_with (first | refine cut_mid (k := 6) rfl _ _ _ rfl Try.underlying22 elemEn sizeOfEn pm hcap rfl rfl rfl ?_ | (refine clear_at En.vals_length (by decide) En.vals_one En.zero rfl _ rfl Try.underlying22 zeroOfEn rfl hC (by omega) hs8 rfl ?_; intro w3 b3 k3; have hO3 := hO1.front En.vals_length p hpL _ hf8 hC b3; have hKp3 := hHeld.trans k3))
  rw [hT] at hO3
  clear hO1 hC b3 hT
  go_ret
  exact ⟨rfl, hO3, hKp3⟩

end Go.Proofs.Ytkppidcamhbddaa
