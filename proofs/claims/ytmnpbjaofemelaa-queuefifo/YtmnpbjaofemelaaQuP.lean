/-
  A frame, counts with members, members with frames, as arguments.
  No condition.
-/
import Derived.Test.YtmnpbjaofemelaaQu
namespace Go.Proofs.Ytmnpbjaofemelaa
set_option maxRecDepth 10000
open Go.ChangeShapes Go.WideShapes Go.ChangeAt Go.RowKit Go.WideElems Go.Sort
set_option linter.unusedVariables false
set_option linter.unusedSimpArgs false

structure Fm where
  f : Int
  r : Nat
  a : Option Addr
  L : List En
  c : Nat
def Fm.vals (x : Fm) : List Value := [.int .i64 x.f, .int .u32 (x.r : Int), .slice x.a x.L.length x.c]
def Fm.arr (x : Fm) : Array Value := x.vals.toArray
def Fm.zero : Fm := ⟨0, 0, none, [], 0⟩
theorem Fm.vals_length (x : Fm) : x.vals.length = 3 := rfl
theorem Fm.vals_one (x : Fm) : ∀ v ∈ x.vals, v.oneCell' = true := by
  intro v hv
  simp [Fm.vals] at hv
  rcases hv with rfl | rfl | rfl <;> rfl
theorem Fm.arr_one (x : Fm) : x.arr.all (·.oneCell') = true := all_oneCell_toArray x.vals_one
structure Fm.ok (W : World) (x : Fm) : Prop where
  hf : -9223372036854775808 ≤ x.f ∧ x.f ≤ 9223372036854775807
  hr : x.r < 4294967296
  hb : x.L.length * 56 ≤ 140737488351232
  hl : x.L.length ≤ x.c
  hc : x.c ≤ maxLen
  hS : Li En.vals 0 x.a x.L W

theorem sizeFm : (Try.prog.info? 26).map (·.size) = some 3 := by kernel_rfl
theorem zeroFm : (Try.prog.info? 26).map (fun i => (i.zero, i.size)) = some (some (.agg Fm.zero.arr), 3) := by kernel_rfl

def cmc (c m : Nat → Nat) : Array Value := (row8 c ++ row8 m).toArray
theorem cmc_c (c m : Nat → Nat) : ((cmc c m).extract 0 (0 + (row8 c).length)).toList = row8 c := by kernel_rfl
theorem cmc_m (c m : Nat → Nat) : ((cmc c m).extract 8 (8 + (row8 m).length)).toList = row8 m := by kernel_rfl

section
variable {H : Type} {enc : TypeId × Value → H} {W : World} {base : Nat} {spare : Nat → Bool} {held : Bool}
theorem cellsFm {cs : List Value} {fuel : Nat} {x : DataW H × List MemPlace} (h : DataW.trod enc Try.prog W base spare held fuel 26 cs = some x) (hw : ∀ n ∈ x.1.weights Try.prog 26, n ≤ reachBytes) : ∃ e : Fm, cs = e.vals ∧ e.ok W := by
  have hC : Try.prog.cellsOf 26 = 3 := by kernel_rfl
  have hc0 : Try.prog.cellsOf 3 = 1 := by kernel_rfl
  have hc1 : Try.prog.cellsOf 23 = 1 := by kernel_rfl
  have hc2 : Try.prog.cellsOf 24 = 1 := by kernel_rfl
  have hu : Try.prog.underlying 26 = some (.struct (Try.prog.fieldsOf 26)) := by kernel_rfl
  have hf : (Try.prog.fieldsOf 26).toList.map (·.type) = [3, 23, 24] := by kernel_rfl
  obtain ⟨xs, m, _, hx, hlen, hl, hg⟩ := DataW.trod_struct Try.underlying26 h
  rw [hC] at hlen
  match cs, hlen with
  | [c0, c1, c2], _ =>
    match xs, hl with
    | [y0, y1, y2], _ =>
      have g0 := hg 0 _ rfl
      have g1 := hg 1 _ rfl
      have g2 := hg 2 _ rfl
      simp [hc0, hc1, hc2] at g0 g1 g2
      obtain ⟨x0, e0, _, w0⟩ := DataW.trod_int Try.underlying3 g0
      have f0 := i64_of x0 w0
      obtain ⟨x1, e1, _, w1⟩ := DataW.trod_int Try.underlying23 g1
      obtain ⟨x1, rfl, f1⟩ := u32_nat x1 w1
      have hw2 : ∀ n ∈ y2.1.weights Try.prog 24, n ≤ reachBytes := fun n hn => hw n (by
        rw [hx]
        simp only [DataW.weights, hu, hf]
        exact DataW.weights_mem_each (j := 2) rfl rfl _ hn)
      obtain ⟨a2, L2, c2', e2, f2⟩ : ∃ (a : Option Addr) (L : List En) (c : Nat), [c2] = [.slice a L.length c] ∧ (L.length * 56 ≤ 140737488351232 ∧ L.length ≤ c ∧ c ≤ maxLen ∧ Li En.vals 0 a L W) := by
        rcases Go.Deep.open_slice Try.underlying24 g2 with ⟨hc, _⟩ | ⟨a, len, cap, mm, nn, D, Pl, hc, hba, hlc, hcm, hm, hx, hcell⟩
        · exact ⟨none, [], 0, hc, by simp, Nat.le_refl _, Nat.zero_le _, .inl rfl⟩
        · have ht : DataW.Trod enc Try.prog W base spare held 24 (.slice (some a) len cap) y2.1 y2.2 := ⟨m, by
            have e9 : (Value.slice (some a) len cap).cells.toList = [.slice (some a) len cap] := by simp [Value.cells]
            rw [e9, ← hc]
            exact g2⟩
          obtain ⟨a', L, k', e', h4, h5, h6, h7, hS⟩ := open_Ens ⟨_, _, _, rfl⟩ hw2 ht
          injection e' with e3 e4 e5
          subst e3 e4 e5
          exact ⟨some a, L, cap, hc, h4, h5, h6, hS⟩
      simp at e0 e1 e2
      subst e0 e1 e2
      obtain ⟨f3, f4, f5, f6⟩ := f2
      exact ⟨⟨x0, x1, a2, L2, c2'⟩, rfl, ⟨f0, f1, f3, f4, f5, f6⟩⟩
theorem open_fm {v : Value} {d : DataW H} {p : List MemPlace} (hv : ∃ cs, v = .agg cs) (hw : ∀ n ∈ d.weights Try.prog 26, n ≤ reachBytes) (h : DataW.Trod enc Try.prog W base spare held 26 v d p) : ∃ x : Fm, v = .agg x.arr ∧ x.ok W := by
  obtain ⟨cs, rfl⟩ := hv
  obtain ⟨fuel, hf⟩ := h
  obtain ⟨e, he, hfit⟩ := cellsFm hf hw
  exact ⟨e, agg_of he, hfit⟩
theorem open_fms {v : Value} {d : DataW H} {p : List MemPlace} (hv : ∃ a n c, v = .slice a n c) (hw : ∀ n ∈ d.weights Try.prog 48, n ≤ reachBytes) (h : DataW.Trod enc Try.prog W base spare held 48 v d p) :
    ∃ (a : Option Addr) (L : List Fm) (c : Nat), v = .slice a L.length c ∧ L.length * 40 ≤ 140737488351232 ∧ L.length ≤ c ∧ c ≤ maxLen ∧ (∀ x ∈ L, x.ok W) ∧ Li Fm.vals 0 a L W :=
  open_liw Fm.zero Fm.vals_length (by decide) Try.underlying48 (by kernel_rfl) (by kernel_rfl) cellsFm hv hw h
theorem open_cm {v : Value} {d : DataW H} {p : List MemPlace} (hv : ∃ cs, v = .agg cs) (h : DataW.Trod enc Try.prog W base spare held 31 v d p) : ∃ c m : Nat → Nat, v = .agg (cmc c m) ∧ (∀ i, c i < 4294967296) ∧ ∀ i, m i < 4294967296 := by
  obtain ⟨cs, rfl⟩ := hv
  obtain ⟨fuel, hf⟩ := h
  have hC : Try.prog.cellsOf 31 = 16 := by kernel_rfl
  have h1 : Try.prog.cellsOf 28 = 8 := by kernel_rfl
  have h2 : Try.prog.cellsOf 29 = 8 := by kernel_rfl
  obtain ⟨xs, k, _, _, hlen, hl, hg⟩ := DataW.trod_struct Try.underlying31 hf
  have hl2 : xs.length = 2 := hl
  have g0 := hg 0 _ rfl
  have g1 := hg 1 _ rfl
  obtain ⟨c, e0, b0⟩ := row8_cells Try.underlying28 h1 (by rw [List.getElem?_eq_getElem (by omega)]; rfl) g0
  obtain ⟨m, e1, b1⟩ := row8_cells Try.underlying29 h2 (by rw [List.getElem?_eq_getElem (by omega)]; rfl) g1
  rw [hC] at hlen
  generalize hcs : (Value.agg cs).cells.toList = l at hlen e0 e1
  change (l.drop 0).take (Try.prog.cellsOf 28) = _ at e0
  change (l.drop 8).take (Try.prog.cellsOf 29) = _ at e1
  rw [h1] at e0
  rw [h2] at e1
  refine ⟨c, m, agg_of ?_, b0, b1⟩
  have z : l.drop 16 = [] := List.drop_eq_nil_of_le (by omega)
  have ez : l = (l.drop 0).take 8 ++ (l.drop 8).take 8 := by
    conv => lhs; rw [← List.drop_zero (l := l), more l 0 8, more l 8 8, z, List.append_nil]
  rw [hcs, ez, e0, e1]
end
def pyc (m : Nat → Nat) (v : Value) : Array Value := (row8 m ++ [v]).toArray
theorem pyc_m (m : Nat → Nat) (v : Value) : ((pyc m v).extract 0 (0 + (row8 m).length)).toList = row8 m := by kernel_rfl
section
variable {H : Type} {enc : TypeId × Value → H} {W : World} {base : Nat} {spare : Nat → Bool} {held : Bool}
theorem open_py {v : Value} {d : DataW H} {p : List MemPlace} (hv : ∃ cs, v = .agg cs) (hw : ∀ n ∈ d.weights Try.prog 50, n ≤ reachBytes) (h : DataW.Trod enc Try.prog W base spare held 50 v d p) :
    ∃ (m : Nat → Nat) (a : Option Addr) (L : List Fm) (c : Nat), v = .agg (pyc m (.slice a L.length c)) ∧ (∀ i, m i < 4294967296) ∧ L.length * 40 ≤ 140737488351232 ∧ L.length ≤ c ∧ c ≤ maxLen ∧ (∀ x ∈ L, x.ok W) ∧ Li Fm.vals 0 a L W := by
  obtain ⟨cs, rfl⟩ := hv
  obtain ⟨fuel, hf⟩ := h
  have hC : Try.prog.cellsOf 50 = 9 := by kernel_rfl
  have h1 : Try.prog.cellsOf 29 = 8 := by kernel_rfl
  have h2 : Try.prog.cellsOf 48 = 1 := by kernel_rfl
  have hu : Try.prog.underlying 50 = some (.struct (Try.prog.fieldsOf 50)) := by kernel_rfl
  have hf3 : (Try.prog.fieldsOf 50).toList.map (·.type) = [29, 48] := by kernel_rfl
  obtain ⟨xs, k, _, hd, hlen, hl, hg⟩ := DataW.trod_struct Try.underlying50 hf
  match xs, hl with
  | [y0, y1], _ =>
    have g0 := hg 0 _ rfl
    have g1 := hg 1 _ rfl
    obtain ⟨m, e0, b0⟩ := row8_cells Try.underlying29 h1 (by rfl) g0
    rw [hC] at hlen
    have hd' : d = .agg ([y0, y1].map (·.1)) := by injection hd
    have hw1 : ∀ n ∈ y1.1.weights Try.prog 48, n ≤ reachBytes := fun n hn => hw n (by
      rw [hd']
      simp only [DataW.weights, hu, hf3]
      exact DataW.weights_mem_each (j := 1) rfl rfl _ hn)
    generalize hcs : (Value.agg cs).cells.toList = l at hlen e0 g1
    change (l.drop 0).take (Try.prog.cellsOf 29) = _ at e0
    change DataW.trod enc Try.prog W base spare held k 48 ((l.drop 8).take (Try.prog.cellsOf 48)) = some y1 at g1
    rw [h1] at e0
    rw [h2] at g1
    obtain ⟨a, L, c, e1, f1⟩ : ∃ (a : Option Addr) (L : List Fm) (c : Nat), (l.drop 8).take 1 = [.slice a L.length c] ∧ (L.length * 40 ≤ 140737488351232 ∧ L.length ≤ c ∧ c ≤ maxLen ∧ (∀ x ∈ L, x.ok W) ∧ Li Fm.vals 0 a L W) := by
      rcases Go.Deep.open_slice Try.underlying48 g1 with ⟨hc, _⟩ | ⟨a, len, cap, mm, nn, D, Pl, hc, hba, hlc, hcm, hm, hx, hcell⟩
      · exact ⟨none, [], 0, hc, by simp, Nat.le_refl _, Nat.zero_le _, fun _ h => (by cases h), .inl rfl⟩
      · have ht : DataW.Trod enc Try.prog W base spare held 48 (.slice (some a) len cap) y1.1 y1.2 := ⟨k, by
          have e9 : (Value.slice (some a) len cap).cells.toList = [.slice (some a) len cap] := by simp [Value.cells]
          rw [e9, ← hc]
          exact g1⟩
        obtain ⟨a', L, k', e', h4, h5, h6, h7, hS⟩ := open_fms ⟨_, _, _, rfl⟩ hw1 ht
        injection e' with e3 e4 e5
        subst e3 e4 e5
        exact ⟨some a, L, cap, hc, h4, h5, h6, h7, hS⟩
    refine ⟨m, a, L, c, agg_of ?_, b0, f1⟩
    have z : l.drop 9 = [] := List.drop_eq_nil_of_le (by omega)
    have ez : l = (l.drop 0).take 8 ++ (l.drop 8).take 1 := by
      conv => lhs; rw [← List.drop_zero (l := l), more l 0 8, more l 8 1, z, List.append_nil]
    rw [hcs, ez, e0, e1]
end

end Go.Proofs.Ytmnpbjaofemelaa
