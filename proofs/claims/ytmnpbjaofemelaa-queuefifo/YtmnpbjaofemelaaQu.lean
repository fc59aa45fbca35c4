/-
  Entries that wait, as plain data: their cells; two compared; lists of them; as arguments; a place as a map's key.
  No condition.
-/
import Derived.Test.YtmnpbjaofemelaaQuM
import Derived.Test.YtmnpbjaofemelaaLw
import Derived.Test.YtmnpbjaofemelaaMb
import Derived.Maps.OwnSet
import Derived.DeepKeys4
namespace Go.Proofs.Ytmnpbjaofemelaa
set_option maxRecDepth 10000
open Go.ChangeShapes Go.WideShapes Go.ChangeAt Go.RowKit Go.WideElems Go.Sort
set_option linter.unusedVariables false
set_option linter.unusedSimpArgs false

def Wt.vals (x : Wt) : List Value := x.p.vals ++ x.e.vals
def Wt.arr (x : Wt) : Array Value := x.vals.toArray
def Wt.zero : Wt := ⟨Pl.zero, En.zero⟩
theorem Wt.vals_length (x : Wt) : x.vals.length = 9 := rfl
theorem Wt.arr_size (x : Wt) : x.arr.size = 9 := rfl
theorem Wt.vals_one (x : Wt) : ∀ v ∈ x.vals, v.oneCell' = true := by
  intro v hv
  rcases List.mem_append.1 hv with h | h
  · exact Pl.vals_one _ v h
  · exact En.vals_one _ v h
theorem Wt.arr_one (x : Wt) : x.arr.all (·.oneCell') = true := all_oneCell_toArray x.vals_one
theorem Wt.place (x : Wt) : (x.arr.extract 0 (0 + x.p.vals.length)).toList = x.p.vals := by kernel_rfl
theorem Wt.entry (x : Wt) : (x.arr.extract 3 (3 + x.e.vals.length)).toList = x.e.vals := by kernel_rfl
theorem Wt.same_self (a : Wt) : Wt.same a a = true := (Wt.same_iff a a).2 rfl
theorem Wt.same_no {a b : Wt} (h : a ≠ b) : Wt.same a b = false := by
  cases e : Wt.same a b
  · rfl
  · exact absurd ((Wt.same_iff a b).1 e) h
def Pl.fit (p : Pl) : Prop := p.r < 4294967296 ∧ (-9223372036854775808 ≤ p.f ∧ p.f ≤ 9223372036854775807) ∧ (-9223372036854775808 ≤ p.s ∧ p.s ≤ 9223372036854775807)
def Wt.fit (x : Wt) : Prop := x.p.fit
def En.fit (_ : En) : Prop := True

theorem sizeWt : (Try.prog.info? 47).map (·.size) = some 9 := by kernel_rfl
theorem zeroWt : (Try.prog.info? 47).map (fun i => (i.zero, i.size)) = some (some (.agg Wt.zero.arr), 9) := by kernel_rfl
theorem builtWt : Try.prog.built 47 [] = some Wt.zero.arr := by kernel_rfl
theorem infoWt : ∃ i z, Try.prog.info? 47 = some i ∧ i.zero = some z ∧ i.size = 9 ∧ i.bytes = 80 ∧ z.cells.size = 9 := by
  have h : (Try.prog.info? 47).map (fun i => (i.zero, i.size, i.bytes)) = some (some (.agg Wt.zero.arr), 9, 80) := by kernel_rfl
  obtain ⟨i, hi, h0, h1, h2⟩ := info_parts h
  exact ⟨i, _, hi, h0, h1, h2, rfl⟩

theorem bsWt (e : Wt) (w : World) : (Instr.buildSlice 22 1 #[(0, .agg e.arr)]).run Try.prog w = .ok (.slice (some ⟨w.heap.size, 0, none⟩) 1 1) (w.alloc (.cells e.arr 47)) := by kernel_rfl
theorem bsWt0 (w : World) : (Instr.buildSlice 22 0 #[]).run Try.prog w = .ok (.slice (some ⟨w.heap.size, 0, none⟩) 0 0) (w.alloc (.cells #[] 47)) := by kernel_rfl
/- A slice of one, as what is appended; an empty one. -/
theorem box_Wt {ops : Array Oper} {rest : List Oper} {op : Oper} {a : Act} {w : World} {Q : Exit → Act → World → Prop} (hgd : op.guard = none) (x : Operand) (ho : op.op = .buildSlice 22 1 #[(0, x)]) (e : Wt) (hx : a.eval x = .agg e.arr)
    (h : ∀ W, Li Wt.vals w.heap.size (some ⟨w.heap.size, 0, none⟩) [e] W → Below w.heap.size w W → wpList Try.prog ops Q rest (a.put op.dst (.slice (some ⟨w.heap.size, 0, none⟩) 1 1)) W) : wpList Try.prog ops Q (op :: rest) a w :=
  wpList_plain hgd fun _ hK => by
    have hk := hK _ _ (h _ (li_box (f := Wt.vals) w e 47 _ (Nat.le_refl _)) (below_box w _))
    unfold Oper.wp execOp
    simp only [ho, List.map_toArray, List.map_cons, List.map_nil, hx, Sem.run_bind, Sem.run_pure, bsWt, Result.andThen_ok]
    exact hk
theorem box_Wt0 {ops : Array Oper} {rest : List Oper} {op : Oper} {a : Act} {w : World} {Q : Exit → Act → World → Prop} (hgd : op.guard = none) (ho : op.op = .buildSlice 22 0 #[])
    (h : wpList Try.prog ops Q rest (a.put op.dst (.slice (some ⟨w.heap.size, 0, none⟩) 0 0)) (w.alloc (.cells #[] 47))) : wpList Try.prog ops Q (op :: rest) a w :=
  wpList_plain hgd fun _ hK => by
    have hk := hK _ _ h
    unfold Oper.wp execOp
    simp only [ho, List.map_toArray, List.map_nil, Sem.run_bind, Sem.run_pure, bsWt0, Result.andThen_ok]
    exact hk

theorem wp_Wt0 {op : Oper} {a : Act} {w : World} {K : Act → World → Prop} {Q : Exit → Act → World → Prop} (ho : op.op = .buildSlice 22 0 #[])
    (h : ∀ g W, Lg Wt.vals 9 47 g (some ⟨g, 0, none⟩) 0 [] W → Below w.heap.size w W → w.heap.size ≤ g → g < W.heap.size → K (a.put op.dst (.slice (some ⟨g, 0, none⟩) 0 0)) W) : op.wp Try.prog a w K Q := by
  have hk := h _ _ (Lg.of (Ow.empty (blk_new w #[] 47)) (Nat.le_refl _)) (below_box w _) (Nat.le_refl _) (by simp)
  unfold Oper.wp execOp
  simp only [ho, List.map_toArray, List.map_nil, Sem.run_bind, Sem.run_pure, bsWt0, Result.andThen_ok]
  exact hk
theorem wp_Wt {op : Oper} {a : Act} {w : World} {K : Act → World → Prop} {Q : Exit → Act → World → Prop} (x : Operand) (ho : op.op = .buildSlice 22 1 #[(0, x)]) (e : Wt) (hx : a.eval x = .agg e.arr)
    (h : ∀ g W, Li Wt.vals 0 (some ⟨g, 0, none⟩) [e] W → Below w.heap.size w W → K (a.put op.dst (.slice (some ⟨g, 0, none⟩) 1 1)) W) : op.wp Try.prog a w K Q := by
  have hk := h _ _ (li_box (f := Wt.vals) w e 47 0 (Nat.zero_le _)) (below_box w _)
  unfold Oper.wp execOp
  simp only [ho, List.map_toArray, List.map_cons, List.map_nil, hx, Sem.run_bind, Sem.run_pure, bsWt, Result.andThen_ok]
  exact hk

theorem equalWt (a b : Wt) (w : World) : (Op.equal 47 (.agg a.arr) (.agg b.arr)).run Try.prog w = .ok (Wt.same a b) w := by
  obtain ⟨⟨r, f, s⟩, ⟨k, sv, g, se, n, t⟩⟩ := a
  obtain ⟨⟨r_, f_, s_⟩, ⟨k_, sv_, g_, se_, n_, t_⟩⟩ := b
  by_cases h0 : r = r_
  · by_cases h1 : f = f_
    · by_cases h2 : s = s_
      · by_cases h3 : k = k_
        · by_cases h4 : sv = sv_
          · by_cases h5 : g = g_
            · by_cases h6 : se = se_
              · by_cases h7 : n = n_
                · by_cases h8 : t = t_
                  · simp [go_sem, Op.equal, Op.maxDepth, Wt.arr, Wt.vals, Pl.vals, En.vals, Wt.same, Pl.same, En.same, Int.ofNat_inj, *]
                  · have h9 := bytesNe h8
                    simp [go_sem, Op.equal, Op.maxDepth, Wt.arr, Wt.vals, Pl.vals, En.vals, Wt.same, Pl.same, En.same, Int.ofNat_inj, *]
                · have h9 : ¬ (n : Int) = (n_ : Int) := by omega
                  simp [go_sem, Op.equal, Op.maxDepth, Wt.arr, Wt.vals, Pl.vals, En.vals, Wt.same, Pl.same, En.same, Int.ofNat_inj, *]
              · have h9 : ¬ (se : Int) = (se_ : Int) := by omega
                simp [go_sem, Op.equal, Op.maxDepth, Wt.arr, Wt.vals, Pl.vals, En.vals, Wt.same, Pl.same, En.same, Int.ofNat_inj, *]
            · simp [go_sem, Op.equal, Op.maxDepth, Wt.arr, Wt.vals, Pl.vals, En.vals, Wt.same, Pl.same, En.same, Int.ofNat_inj, *]
          · simp [go_sem, Op.equal, Op.maxDepth, Wt.arr, Wt.vals, Pl.vals, En.vals, Wt.same, Pl.same, En.same, Int.ofNat_inj, *]
        · simp [go_sem, Op.equal, Op.maxDepth, Wt.arr, Wt.vals, Pl.vals, En.vals, Wt.same, Pl.same, En.same, Int.ofNat_inj, *]
      · simp [go_sem, Op.equal, Op.maxDepth, Wt.arr, Wt.vals, Pl.vals, En.vals, Wt.same, Pl.same, En.same, Int.ofNat_inj, *]
    · simp [go_sem, Op.equal, Op.maxDepth, Wt.arr, Wt.vals, Pl.vals, En.vals, Wt.same, Pl.same, En.same, Int.ofNat_inj, *]
  · have h9 : ¬ (r : Int) = (r_ : Int) := by omega
    simp [go_sem, Op.equal, Op.maxDepth, Wt.arr, Wt.vals, Pl.vals, En.vals, Wt.same, Pl.same, En.same, Int.ofNat_inj, *]
theorem eqlWt (a b : Wt) (c : Bool) (h : Wt.same a b = c) (w : World) : (binOp .eql 47 (.agg a.arr) (.agg b.arr)).run Try.prog w = .ok (.bool c) w := by
  simp only [binOp]
  simp [equalWt, h]
theorem neqWt (a b : Wt) (c : Bool) (h : Wt.same a b = c) (w : World) : (binOp .neq 47 (.agg a.arr) (.agg b.arr)).run Try.prog w = .ok (.bool (!c)) w := by
  simp only [binOp]
  simp [equalWt, h]

section
variable {H : Type} {enc : TypeId × Value → H} {W : World} {base : Nat} {spare : Nat → Bool} {held : Bool}
theorem i64_cellw {l : List Value} {fuel : Nat} {o : Option (DataW H × List MemPlace)} (ho : o.isSome = true) (h : DataW.trod enc Try.prog W base spare held fuel 3 l = o) : ∃ x : Int, l = [.int .i64 x] ∧ -9223372036854775808 ≤ x ∧ x ≤ 9223372036854775807 := by
  obtain ⟨y, rfl⟩ := Option.isSome_iff_exists.1 ho
  obtain ⟨k, e, _, hw⟩ := DataW.trod_int Try.underlying3 h
  exact ⟨k, e, i64_of k hw⟩
theorem plw_cells {l : List Value} {fuel : Nat} {o : Option (DataW H × List MemPlace)} (ho : o.isSome = true) (h : DataW.trod enc Try.prog W base spare held fuel 42 l = o) : ∃ x : Pl, l = x.vals ∧ x.fit := by
  obtain ⟨y, rfl⟩ := Option.isSome_iff_exists.1 ho
  have hC : Try.prog.cellsOf 42 = 3 := by kernel_rfl
  have h22 : Try.prog.cellsOf 23 = 1 := by kernel_rfl
  have h3 : Try.prog.cellsOf 3 = 1 := by kernel_rfl
  obtain ⟨xs, m, _, _, hlen, hl, hg⟩ := DataW.trod_struct Try.underlying42 h
  have hl3 : xs.length = 3 := hl
  have g0 := hg 0 _ rfl
  have g1 := hg 1 _ rfl
  have g2 := hg 2 _ rfl
  obtain ⟨x0, e0, b0⟩ := u32_cell (by rw [List.getElem?_eq_getElem (by omega)]; rfl) g0
  obtain ⟨x1, e1, b1⟩ := i64_cellw (by rw [List.getElem?_eq_getElem (by omega)]; rfl) g1
  obtain ⟨x2, e2, b2⟩ := i64_cellw (by rw [List.getElem?_eq_getElem (by omega)]; rfl) g2
  rw [hC] at hlen
  refine ⟨⟨x0, x1, x2⟩, ?_, b0, b1, b2⟩
  change (l.drop 0).take (Try.prog.cellsOf 23) = _ at e0
  change (l.drop 1).take (Try.prog.cellsOf 3) = _ at e1
  change (l.drop 2).take (Try.prog.cellsOf 3) = _ at e2
  rw [h22] at e0
  rw [h3] at e1 e2
  have z : l.drop 3 = [] := List.drop_eq_nil_of_le (by omega)
  have e : l = (l.drop 0).take 1 ++ ((l.drop 1).take 1 ++ ((l.drop 2).take 1)) := by
    conv => lhs; rw [← List.drop_zero (l := l), one_more l 0, one_more l 1, one_more l 2, z, List.append_nil]
  rw [e, e0, e1, e2]
  rfl
theorem wt_cells {l : List Value} {fuel : Nat} {o : Option (DataW H × List MemPlace)} (ho : o.isSome = true) (h : DataW.trod enc Try.prog W base spare held fuel 47 l = o) : ∃ x : Wt, l = x.vals ∧ x.fit := by
  obtain ⟨y, rfl⟩ := Option.isSome_iff_exists.1 ho
  have hC : Try.prog.cellsOf 47 = 9 := by kernel_rfl
  have h1 : Try.prog.cellsOf 42 = 3 := by kernel_rfl
  have h2 : Try.prog.cellsOf 45 = 6 := by kernel_rfl
  obtain ⟨xs, k, _, _, hlen, hl, hg⟩ := DataW.trod_struct Try.underlying47 h
  have hl2 : xs.length = 2 := hl
  have g0 := hg 0 _ rfl
  have g1 := hg 1 _ rfl
  obtain ⟨p, e0, b0⟩ := plw_cells (by rw [List.getElem?_eq_getElem (by omega)]; rfl) g0
  obtain ⟨e, e1⟩ := cellsEn (g1.trans (List.getElem?_eq_getElem (by omega)))
  rw [hC] at hlen
  refine ⟨⟨p, e⟩, ?_, b0⟩
  change (l.drop 0).take (Try.prog.cellsOf 42) = _ at e0
  change (l.drop 3).take (Try.prog.cellsOf 45) = _ at e1
  rw [h1] at e0
  rw [h2] at e1
  have z : l.drop 9 = [] := List.drop_eq_nil_of_le (by omega)
  have ez : l = (l.drop 0).take 3 ++ (l.drop 3).take 6 := by
    conv => lhs; rw [← List.drop_zero (l := l), more l 0 3, more l 3 6, z, List.append_nil]
  rw [ez, e0, e1]
  rfl
theorem cellsWt {cs : List Value} {fuel : Nat} {x : DataW H × List MemPlace} (h : DataW.trod enc Try.prog W base spare held fuel 47 cs = some x) (hw : ∀ n ∈ x.1.weights Try.prog 47, n ≤ reachBytes) : ∃ e : Wt, cs = e.vals ∧ e.fit := wt_cells rfl h
theorem open_wts {v : Value} {d : DataW H} {p : List MemPlace} (hv : ∃ a n c, v = .slice a n c) (hw : ∀ n ∈ d.weights Try.prog 22, n ≤ reachBytes) (h : DataW.Trod enc Try.prog W base spare held 22 v d p) :
    ∃ (a : Option Addr) (L : List Wt) (c : Nat), v = .slice a L.length c ∧ L.length * 80 ≤ 140737488351232 ∧ L.length ≤ c ∧ c ≤ maxLen ∧ (∀ x ∈ L, x.fit) ∧ Li Wt.vals 0 a L W :=
  open_liw Wt.zero Wt.vals_length (by decide) Try.underlying22 (by kernel_rfl) (by kernel_rfl) cellsWt hv hw h
theorem cellsEnw {cs : List Value} {fuel : Nat} {x : DataW H × List MemPlace} (h : DataW.trod enc Try.prog W base spare held fuel 45 cs = some x) (hw : ∀ n ∈ x.1.weights Try.prog 45, n ≤ reachBytes) : ∃ e : En, cs = e.vals ∧ e.fit := by
  obtain ⟨e, he⟩ := cellsEn h
  exact ⟨e, he, trivial⟩
theorem open_Ens {v : Value} {d : DataW H} {p : List MemPlace} (hv : ∃ a n c, v = .slice a n c) (hw : ∀ n ∈ d.weights Try.prog 24, n ≤ reachBytes) (h : DataW.Trod enc Try.prog W base spare held 24 v d p) :
    ∃ (a : Option Addr) (L : List En) (c : Nat), v = .slice a L.length c ∧ L.length * 56 ≤ 140737488351232 ∧ L.length ≤ c ∧ c ≤ maxLen ∧ (∀ x ∈ L, x.fit) ∧ Li En.vals 0 a L W :=
  open_liw En.zero En.vals_length (by decide) Try.underlying24 (by kernel_rfl) (by kernel_rfl) cellsEnw hv hw h
end

/- A place as a map's key. -/
theorem plOut : laidOutB Try.prog = true := by kernel_rfl
theorem plLaw : Maps.Keyed Try.prog 42 := Maps.Keyed.of_law (deep_law_laid plOut (m := 2) (by omega) (of_decide_eq_true (by kernel_rfl)) (by kernel_rfl) (by kernel_rfl))
def plLit (p : Pl) : Lit := .string (keyBytes [.int .u32 (p.r : Int), .int .i64 p.f, .int .i64 p.s])
theorem plKey (p : Pl) (h : p.fit) : keyOf Try.prog 42 (.agg p.arr) = some (plLit p) := by
  obtain ⟨r, f, s⟩ := p
  obtain ⟨h0, h1, h2⟩ := h
  simp only at h0 h1 h2
  have hk : Try.prog.keyType 42 = true := by kernel_rfl
  have hC : Try.prog.cellsOf 42 = 3 := by kernel_rfl
  have h22 : Try.prog.cellsOf 23 = 1 := by kernel_rfl
  have h3 : Try.prog.cellsOf 3 = 1 := by kernel_rfl
  obtain ⟨m, hm⟩ : ∃ m, Try.prog.types.size = m + 1 := ⟨Try.prog.types.size - 1, by have : 0 < Try.prog.types.size := of_decide_eq_true (by kernel_rfl); omega⟩
  have w0 : (Lit.int .u32 (r : Int)).wf = true := by simp [Lit.wf, IntKind.min, IntKind.max, IntKind.signed, IntKind.bits]; omega
  have w1 : (Lit.int .i64 f).wf = true := by simp [Lit.wf, IntKind.min, IntKind.max, IntKind.signed, IntKind.bits]; omega
  have w2 : (Lit.int .i64 s).wf = true := by simp [Lit.wf, IntKind.min, IntKind.max, IntKind.signed, IntKind.bits]; omega
  have hF : (Value.agg (Pl.mk r f s).arr).formed Try.prog 42 = true := by simp [Value.formed, Try.underlying42, hC, Pl.arr_size]
  unfold keyOf
  rw [Try.underlying42, hk, hF, hm]
  simp only [Program.keyLits, Try.underlying42, Value.cells]
  simp [Program.keyLits, hC, h22, h3, Try.underlying23, Try.underlying3, w0, w1, w2, Pl.arr, Pl.vals, plLit]
theorem plLit_inj {p q : Pl} (hp : p.fit) (hq : q.fit) (h : plLit p = plLit q) : p = q := by
  have h1 := plLaw.inj (plKey p hp) (h ▸ plKey q hq)
  injection h1 with h1
  obtain ⟨r, f, s⟩ := p
  obtain ⟨r', f', s'⟩ := q
  simp [Pl.arr, Pl.vals] at h1
  obtain ⟨h1, h2, h3⟩ := h1
  rw [h2, h3, Pl.mk.injEq]
  exact ⟨by omega, rfl, rfl⟩

end Go.Proofs.Ytmnpbjaofemelaa
