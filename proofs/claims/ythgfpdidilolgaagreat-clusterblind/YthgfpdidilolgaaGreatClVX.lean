/-
  Of the texts beneath these laws, in their order: ClV.
  Each theorem says its own conditions.
-/
import Derived.Test.YthgfpdidilolgaaGreatClTX
import Derived.Test.YthgfpdidilolgaaGreatClUX
import Derived.Test.YthgfpdidilolgaaGreatZ00
namespace Go.Proofs.YthgfpdidilolgaaGreat
set_option maxRecDepth 10000
open Go.ChangeShapes Go.WideShapes Go.ChangeAt Go.RowKit Go.WideElems Go.Sort
section
variable {H : Type} {enc : TypeId × Value → H} {W : World} {base : Nat} {spare : Nat → Bool} {held : Bool}
theorem i64_of2 (n : Int) (h : (Lit.int .i64 n).wf = true) : -9223372036854775808 ≤ n ∧ n ≤ 9223372036854775807 := by
 simp [Lit.wf, IntKind.min, IntKind.max, IntKind.signed, IntKind.bits] at h
 omega
theorem int_cell2 {l : List Value} {fuel : Nat} {o : Option (DataW H × List MemPlace)} (ho : o.isSome = true) (h : DataW.trod enc Tryz.prog W base spare held fuel 3 l = o) : ∃ x : Int, l = [.int .i64 x] ∧ -9223372036854775808 ≤ x ∧ x ≤ 9223372036854775807 := by
 obtain ⟨y, rfl⟩ := Option.isSome_iff_exists.1 ho
 obtain ⟨k, e, _, hw⟩ := DataW.trod_int Tryz.underlying3 h
 exact ⟨k, e, i64_of2 k hw⟩
theorem de_cells {l : List Value} {fuel : Nat} {x : DataW H × List MemPlace} (h : DataW.trod enc Tryz.prog W base spare held fuel 45 l = some x) (_hw : ∀ n ∈ x.1.weights Tryz.prog 45, n ≤ reachBytes) : ∃ e : De, l = e.vals ∧ e.ok := by
 have hC : Tryz.prog.cellsOf 45 = 42 := by kernel_rfl
 have h1 : Tryz.prog.cellsOf 3 = 1 := by kernel_rfl
 have h2 : Tryz.prog.cellsOf 37 = 1 := by kernel_rfl
 have h3 : Tryz.prog.cellsOf 43 = 36 := by kernel_rfl
 obtain ⟨xs, k, _, _, hlen, hl, hg⟩ := DataW.trod_struct Tryz.underlying45 h
 have hl7 : xs.length = 7 := hl
 rw [hC] at hlen
 obtain ⟨x0, e0, _⟩ := int_cell2 (by rw [List.getElem?_eq_getElem (by omega)]; rfl) (hg 0 _ rfl)
 obtain ⟨x1, e1, _⟩ := int_cell2 (by rw [List.getElem?_eq_getElem (by omega)]; rfl) (hg 1 _ rfl)
 obtain ⟨x2, e2, _⟩ := int_cell2 (by rw [List.getElem?_eq_getElem (by omega)]; rfl) (hg 2 _ rfl)
 obtain ⟨x3, e3, b3⟩ := int_cell2 (by rw [List.getElem?_eq_getElem (by omega)]; rfl) (hg 3 _ rfl)
 obtain ⟨x4, e4, b4⟩ := int_cell2 (by rw [List.getElem?_eq_getElem (by omega)]; rfl) (hg 4 _ rfl)
 obtain ⟨x5, e5, b5⟩ := u32_cell (by rw [List.getElem?_eq_getElem (by omega)]; rfl) (hg 5 _ rfl)
 obtain ⟨x6, e6⟩ := fr_cells (by rw [List.getElem?_eq_getElem (by omega)]; rfl) (hg 6 _ rfl)
 change (l.drop 0).take (Tryz.prog.cellsOf 3) = _ at e0
 change (l.drop 1).take (Tryz.prog.cellsOf 3) = _ at e1
 change (l.drop 2).take (Tryz.prog.cellsOf 3) = _ at e2
 change (l.drop 3).take (Tryz.prog.cellsOf 3) = _ at e3
 change (l.drop 4).take (Tryz.prog.cellsOf 3) = _ at e4
 change (l.drop 5).take (Tryz.prog.cellsOf 37) = _ at e5
 change (l.drop 6).take (Tryz.prog.cellsOf 43) = _ at e6
 rw [h1] at e0 e1 e2 e3 e4
 rw [h2] at e5
 rw [h3] at e6
 have z : l.drop 42 = [] := List.drop_eq_nil_of_le (by omega)
 have e : l = (l.drop 0).take 1 ++ ((l.drop 1).take 1 ++ ((l.drop 2).take 1 ++ ((l.drop 3).take 1 ++ ((l.drop 4).take 1 ++ ((l.drop 5).take 1 ++ (l.drop 6).take 36))))) := by
  conv => lhs; rw [← List.drop_zero (l := l), more l 0 1, more l 1 1, more l 2 1, more l 3 1, more l 4 1, more l 5 1, more l 6 36, z, List.append_nil]
 refine ⟨⟨x0, x1, x2, x3, x4, x5, x6⟩, ?_, b3, b4.2, b5⟩
 rw [e, e0, e1, e2, e3, e4, e5, e6]
 rfl
theorem open_play {v : Value} {d : DataW H} {p : List MemPlace} (hv : ∃ cs, v = .agg cs) (hw : ∀ n ∈ d.weights Tryz.prog 24, n ≤ reachBytes) (h : DataW.Trod enc Tryz.prog W base spare held 24 v d p) :
  ∃ (n wt : Int) (D : List De) (da : Option Addr) (dc : Nat), v = .agg (plv n wt (.slice da D.length dc)) ∧ D.length ≤ dc ∧ dc ≤ maxLen ∧ (∀ d ∈ D, d.ok) ∧ Li De.vals 0 da D W := by
 obtain ⟨cs, rfl⟩ := hv
 have hC : Tryz.prog.cellsOf 24 = 3 := by kernel_rfl
 have h1 : Tryz.prog.cellsOf 3 = 1 := by kernel_rfl
 have h2 : Tryz.prog.cellsOf 22 = 1 := by kernel_rfl
 obtain ⟨fuel, hf⟩ := h
 obtain ⟨xs, m, _, hd, hlen, hl, hg⟩ := DataW.trod_struct Tryz.underlying24 hf
 have hl3 : xs.length = 3 := hl
 rw [hC] at hlen
 generalize hcs : (Value.agg cs).cells.toList = l at hlen hg
 obtain ⟨x0, e0, _⟩ := int_cell2 (by rw [List.getElem?_eq_getElem (by omega)]; rfl) (hg 0 _ rfl)
 obtain ⟨x1, e1, _⟩ := int_cell2 (by rw [List.getElem?_eq_getElem (by omega)]; rfl) (hg 1 _ rfl)
 have g2 := hg 2 _ rfl
 obtain ⟨y2, hy2⟩ : ∃ y, xs[2]? = some y := ⟨_, List.getElem?_eq_getElem (by omega)⟩
 rw [hy2] at g2
 change (l.drop 0).take (Tryz.prog.cellsOf 3) = _ at e0
 change (l.drop 1).take (Tryz.prog.cellsOf 3) = _ at e1
 change DataW.trod enc Tryz.prog W base spare held m 22 ((l.drop 2).take (Tryz.prog.cellsOf 22)) = some y2 at g2
 rw [h1] at e0 e1
 rw [h2] at g2
 have hwy : ∀ n ∈ y2.1.weights Tryz.prog 22, n ≤ reachBytes := fun n hn => hw n (by
  have hd' : d = .agg (xs.map (·.1)) := by injection hd
  rw [hd']
  have hu : Tryz.prog.underlying 24 = some (.struct (Tryz.prog.fieldsOf 24)) := by kernel_rfl
  have hf3 : (Tryz.prog.fieldsOf 24).toList.map (·.type) = [3, 3, 22] := by kernel_rfl
  simp only [DataW.weights, hu, hf3]
  exact DataW.weights_mem_each (j := 2) rfl (by rw [List.getElem?_map, hy2]; rfl) _ hn)
 have key : ∃ (a : Option Addr) (L : List De) (c : Nat), (l.drop 2).take 1 = [.slice a L.length c] ∧ L.length ≤ c ∧ c ≤ maxLen ∧ (∀ x ∈ L, x.ok) ∧ Li De.vals 0 a L W := by
  rcases Go.Deep.open_slice Tryz.underlying22 g2 with ⟨hc, _⟩ | ⟨a, len, cap, mm, nn, D, Pl, hc, hba, hlc, hcm, hm, hx, hcell⟩
  ·exact ⟨none, [], 0, hc, Nat.le_refl _, Nat.zero_le _, fun _ h => (by cases h), .inl rfl⟩
  ·have ht : DataW.Trod enc Tryz.prog W base spare held 22 (.slice (some a) len cap) y2.1 y2.2 := ⟨m, by
    have e9 : (Value.slice (some a) len cap).cells.toList = [.slice (some a) len cap] := by simp [Value.cells]
    rw [e9, ← hc]
    exact g2⟩
   obtain ⟨a', L, k', e', _, h5, h6, h7, hS⟩ := open_liw De.zero De.vals_length (by decide) (bytes := 384) Tryz.underlying22 (by kernel_rfl) (by kernel_rfl) de_cells ⟨_, _, _, rfl⟩ hwy ht
   injection e' with e3 e4 e5
   subst e3 e4 e5
   exact ⟨some a, L, cap, hc, h5, h6, h7, hS⟩
 obtain ⟨a, L, c, e2, h5, h6, h7, hS⟩ := key
 have z : l.drop 3 = [] := List.drop_eq_nil_of_le (by omega)
 have e : l = (l.drop 0).take 1 ++ ((l.drop 1).take 1 ++ (l.drop 2).take 1) := by
  conv => lhs; rw [← List.drop_zero (l := l), more l 0 1, more l 1 1, more l 2 1, z, List.append_nil]
 refine ⟨x0, x1, L, a, c, ?_, h5, h6, h7, hS⟩
 refine (agg_of hcs).trans ?_
 rw [e, e0, e1, e2]
 rfl
end
end Go.Proofs.YthgfpdidilolgaaGreat
