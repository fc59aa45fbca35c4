/-
  What the program's refuse, isBelow, kindOf, serviceOf and serviceWord do: a panic with a refusal, or an answer.
  Conditions: the tables of forms and services hold what the program's text lays.
-/
import Derived.Test.YtiepdfngjfhadaaDoorPaW
import Derived.Test.YtiepdfngjfhadaaDoorPaB
import Derived.Test.YtiepdfngjfhadaaDoorLr
import Derived.Recover
import Derived.WalkLawsBesides
namespace Go.Proofs.YtiepdfngjfhadaaDoor
set_option maxRecDepth 10000
open Go.RowKit Go.Sort
set_option linter.unusedVariables false
set_option linter.unusedSimpArgs false

/- A refusal, as a panic. -/
def refV : Value := .iface 39 (.agg #[.int .i64 210])
abbrev refP : PanicEntry := { v := refV, recovered := false }
abbrev refE : Ending := .panicked [refP]
def saysN (d : Nat) : Int := match d with | 0 => 0 | 1 => 1 | 2 => 3 | 3 => 5 | 4 => 9 | 5 => 9 | _ => 57
def kB (d : Nat) : ByteArray := strB (kindW d)
def sB (d : Nat) : ByteArray := strB (servW d)
def formV : List Value := [.string (kB 0), .int .i64 0, .string (kB 1), .int .i64 1, .string (kB 2), .int .i64 3, .string (kB 3), .int .i64 5, .string (kB 4), .int .i64 9, .string (kB 5), .int .i64 9, .string (kB 6), .int .i64 57]
def servV : List Value := [.string (sB 0), .string (sB 1), .string (sB 2), .string (sB 3)]
/- The tables lie there. -/
structure Fs (w : World) : Prop where
  forms : w.rangeAt 0 0 formV
  servs : w.rangeAt 1 0 servV
  big : 8 ≤ w.heap.size
theorem range_below {B b o : Nat} {l : List Value} {w w' : World} (h : w.rangeAt b o l) (hb : Below B w w') (hB : b < B) : w'.rangeAt b o l := fun j v hv => (hb.cell (p := ⟨b, o + j, none⟩) hB).trans (h j v hv)
theorem Fs.below {B : Nat} {w w' : World} (h : Fs w) (hb : Below B w w') (hB : 8 ≤ B) : Fs w' :=
  ⟨range_below h.forms hb (show 0 < B by omega), range_below h.servs hb (show 1 < B by omega), Nat.le_trans h.big hb.size⟩
theorem Fs.next {w w' : World} (h : Fs w) (hb : Below w.heap.size w w') : Fs w' := h.below hb h.big

theorem refuse_ok (w : World) : Calls Tryd.prog 38 #[] w fun e w' => e = refE ∧ w' = w := by
  go_enter Tryd.func38, Tryd.ntmps38
  go_wp2_with fail
  exact ⟨rfl, rfl, rfl⟩

theorem isBelow_ok (n e : Int) (w : World) : Calls Tryd.prog 33 #[.int .i64 n, .int .i64 e] w fun r w' => r = .returned (.bool (decide (0 ≤ n ∧ n < e))) ∧ w' = w := by
  by_cases h0 : 0 ≤ n
  · by_cases h1 : n < e
    · have hd : decide (0 ≤ n ∧ n < e) = true := by simp [h0, h1]
      rw [hd]
      go_enter Tryd.func33, Tryd.ntmps33
      go_wp2_with fail
      go_ret
      exact ⟨rfl, rfl⟩
    · have hd : decide (0 ≤ n ∧ n < e) = false := by simp [h1]
      rw [hd]
      go_enter Tryd.func33, Tryd.ntmps33
      go_wp2_with fail
      go_ret
      exact ⟨rfl, rfl⟩
  · have hd : decide (0 ≤ n ∧ n < e) = false := by simp [h0]
    rw [hd]
    go_enter Tryd.func33, Tryd.ntmps33
    go_wp2_with fail
    go_ret
    exact ⟨rfl, rfl⟩

theorem idx_form (k : Nat) (h : k < 7) (W : World) : (Instr.index 56 (.agg formV.toArray) (.int .i64 (k : Int))).run Tryd.prog W = .ok (.agg #[.string (kB k), .int .i64 (saysN k)]) W := by
  have : k = 0 ∨ k = 1 ∨ k = 2 ∨ k = 3 ∨ k = 4 ∨ k = 5 ∨ k = 6 := by omega
  rcases this with rfl | rfl | rfl | rfl | rfl | rfl | rfl <;> (show _ = _; kernel_rfl)
theorem idx_serv (k : Nat) (h : k < 4) (W : World) : (Instr.index 69 (.agg servV.toArray) (.int .i64 (k : Int))).run Tryd.prog W = .ok (.string (sB k)) W := by
  have : k = 0 ∨ k = 1 ∨ k = 2 ∨ k = 3 := by omega
  rcases this with rfl | rfl | rfl | rfl <;> (show _ = _; kernel_rfl)
theorem size_forms : (Tryd.prog.info? 56).map (·.size) = some formV.length := by kernel_rfl
theorem size_servs : (Tryd.prog.info? 69).map (·.size) = some servV.length := by kernel_rfl
theorem size_form : (Tryd.prog.info? 55).map (·.size) = some 2 := by kernel_rfl
theorem zero_form : (Tryd.prog.info? 55).map (fun i => (i.zero, i.size)) = some (some (.agg #[.string ⟨#[]⟩, .int .i64 0]), 2) := by kernel_rfl
theorem kB_eq (k : Nat) (s : ByteArray) : ((kB k).toList == s.toList) = decide (kindW k = bL s) := same_L (kB k) s _ rfl
theorem sB_eq (k : Nat) (s : ByteArray) : ((sB k).toList == s.toList) = decide (servW k = bL s) := same_L (sB k) s _ rfl

set_option maxHeartbeats 2000000 in
theorem kindOf_ok (s : ByteArray) (w : World) (hF : Fs w) : Calls Tryd.prog 26 #[.string s] w fun e w' => ((∃ d : Nat, d ≤ 6 ∧ kindW d = bL s ∧ e = .returned (.int .i64 (d : Int))) ∨ (e = refE ∧ ∀ d, d ≤ 6 → kindW d ≠ bL s)) ∧ Below w.heap.size w w' := by
  have hf := hF.forms
  go_enter Tryd.func26, Tryd.ntmps26
  go_wp2_with (refine load_range rfl 56 _ rfl formV hf rfl Tryd.underlying56 rfl size_forms ?_)
  go_loopw [6] (fun iv wr => ∃ j : Nat, j ≤ 7 ∧ iv = .int .i64 (j : Int) ∧ Hid (∀ d, d < j → kindW d ≠ bL s) ∧ Below w.heap.size w wr) (fun iv _ => 7 - (intOf iv).toNat)
  case atStart => exact ⟨0, by omega, rfl, fun d hd => absurd hd (by omega), Below.refl _ _⟩
  case round =>
    obtain ⟨j, hj, rfl, HN, hB⟩ := hrel
    rename World => wr
    by_cases hjn : j < 7
    · have j0 : (j : Int) < 7 := by omega
      have hix := idx_form j hjn
      have hkb := kB_eq j s
      by_cases hk : kindW j = bL s
      · rw [decide_eq_true hk] at hkb
        have HK := (show Hid (kindW j = bL s) from hk)
        clear hk HN
        generalize kB j = kb at hix hkb
        generalize saysN j = sn at hix
        go_wp2_with (first | refine alloc_zero zero_form rfl rfl ?_ | refine store_new rfl 55 _ _ rfl (cells := #[.string kb, .int .i64 sn]) rfl rfl size_form rfl (by rfl) ?_)
        go_ret
        exact ⟨.inl ⟨j, by omega, HK.out, rfl⟩, hB.alloc hB.size _⟩
      · rw [decide_eq_false hk] at hkb
        have HN2 : Hid (∀ d, d < j + 1 → kindW d ≠ bL s) := fun d hd => by
          rcases Nat.lt_or_ge d j with h | h
          · exact HN.out d h
          · rwa [show d = j by omega]
        clear hk HN
        generalize kB j = kb at hix hkb
        generalize saysN j = sn at hix
        go_wp2_with (first | refine alloc_zero zero_form rfl rfl ?_ | refine store_new rfl 55 _ _ rfl (cells := #[.string kb, .int .i64 sn]) rfl rfl size_form rfl (by rfl) ?_)
        exact ⟨⟨j + 1, by omega, by go_num, HN2, hB.alloc hB.size _⟩, by simp [intOf]; omega⟩
    · obtain rfl : j = 7 := by omega
      go_wp2_with fail
      refine (refuse_ok _).mono ?_
      rintro e w1 ⟨rfl, rfl⟩
      exact ⟨rfl, .inr ⟨rfl, fun d hd => HN.out d (by omega)⟩, hB⟩

set_option maxHeartbeats 2000000 in
theorem serviceOf_ok (s : ByteArray) (w : World) (hF : Fs w) : Calls Tryd.prog 30 #[.string s] w fun e w' => ((∃ d : Nat, d ≤ 3 ∧ servW d = bL s ∧ e = .returned (.int .i64 (d : Int))) ∨ (e = refE ∧ ∀ d, d ≤ 3 → servW d ≠ bL s)) ∧ w' = w := by
  have hf := hF.servs
  go_enter Tryd.func30, Tryd.ntmps30
  go_wp2_with (refine load_range rfl 69 _ rfl servV hf rfl Tryd.underlying69 rfl size_servs ?_)
  go_loopw [6] (fun iv wr => ∃ j : Nat, j ≤ 4 ∧ iv = .int .i64 (j : Int) ∧ Hid (∀ d, d < j → servW d ≠ bL s) ∧ wr = w) (fun iv _ => 4 - (intOf iv).toNat)
  case atStart => exact ⟨0, by omega, rfl, fun d hd => absurd hd (by omega), rfl⟩
  case round =>
    obtain ⟨j, hj, rfl, HN, rfl⟩ := hrel
    rename World => wr
    by_cases hjn : j < 4
    · have j0 : (j : Int) < 4 := by omega
      have hix := idx_serv j hjn
      have hkb := sB_eq j s
      by_cases hk : servW j = bL s
      · rw [decide_eq_true hk] at hkb
        have HK := (show Hid (servW j = bL s) from hk)
        clear hk HN
        generalize sB j = kb at hix hkb
        go_wp2_with fail
        go_ret
        exact ⟨.inl ⟨j, by omega, HK.out, rfl⟩, rfl⟩
      · rw [decide_eq_false hk] at hkb
        have HN2 : Hid (∀ d, d < j + 1 → servW d ≠ bL s) := fun d hd => by
          rcases Nat.lt_or_ge d j with h | h
          · exact HN.out d h
          · rwa [show d = j by omega]
        clear hk HN
        generalize sB j = kb at hix hkb
        go_wp2_with fail
        exact ⟨⟨j + 1, by omega, by go_num, HN2, trivial⟩, by simp [intOf]; omega⟩
    · obtain rfl : j = 4 := by omega
      go_wp2_with fail
      refine (refuse_ok _).mono ?_
      rintro e w1 ⟨rfl, rfl⟩
      exact ⟨rfl, .inr ⟨rfl, fun d hd => HN.out d (by omega)⟩, rfl⟩

/- A service's word; nothing, where there is no such service. -/
def svB (k : Int) : ByteArray := if 0 ≤ k ∧ k < 4 then sB k.toNat else strB []
theorem load_serv (k : Nat) (h : k < 4) {w : World} (hF : Fs w) : w.cell? ⟨1, k, none⟩ = some (.string (sB k)) := by
  have := hF.servs k (.string (sB k)) (by
    have : k = 0 ∨ k = 1 ∨ k = 2 ∨ k = 3 := by omega
    rcases this with rfl | rfl | rfl | rfl <;> rfl)
  rwa [Nat.zero_add] at this
set_option maxHeartbeats 2000000 in
theorem serviceWord_ok (k : Int) (w : World) (hF : Fs w) : Calls Tryd.prog 36 #[.int .i64 k] w fun e w' => e = .returned (.string (svB k)) ∧ w' = w := by
  have pb := isBelow_ok k 4
  by_cases h : 0 ≤ k ∧ k < 4
  · obtain ⟨j, rfl⟩ : ∃ j : Nat, k = (j : Int) := ⟨k.toNat, by omega⟩
    have hj : j < 4 := by omega
    have hl := load_serv j hj hF
    have hs : Hid (svB (j : Int) = sB j) := by
      show _ = _
      unfold svB
      rw [if_pos h]
      rfl
    rw [decide_eq_true h] at pb
    have j0 : (0 : Int) ≤ (j : Int) := by omega
    have j1 : (j : Int) < 4 := by omega
    clear h
    go_enter Tryd.func36, Tryd.ntmps36
    go_wp2_with fail
    refine (pb _).mono ?_
    rintro e w1 ⟨rfl, rfl⟩
    go_wp2_with fail
    go_ret
    exact ⟨by rw [hs.out]; rfl, rfl⟩
  · have hs : Hid (svB k = strB []) := by
      show _ = _
      unfold svB
      rw [if_neg h]
    rw [decide_eq_false h] at pb
    clear h
    go_enter Tryd.func36, Tryd.ntmps36
    go_wp2_with fail
    refine (pb _).mono ?_
    rintro e w1 ⟨rfl, rfl⟩
    go_wp2_with fail
    go_ret
    exact ⟨by rw [hs.out]; rfl, rfl⟩

end Go.Proofs.YtiepdfngjfhadaaDoor
