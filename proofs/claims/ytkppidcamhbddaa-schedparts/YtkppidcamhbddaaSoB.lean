/-
  cmp.Less of two uint64; slices.insertionSortOrdered of uint64.
  The bounds lie within the row.
-/
import Derived.Test.YtkppidcamhbddaaSoA
namespace Go.Proofs.Ytkppidcamhbddaa
set_option maxRecDepth 10000
open Go.RowKit

theorem isNaN_ok (x : Int) (w : World) : Calls Try.prog 42 #[.int .u64 x] w fun e w' => e = .returned (.bool false) ∧ w' = w := by
  go_enter Try.func42, Try.ntmps42
  go_wp2
  go_ret
  exact ⟨by simp, rfl⟩
theorem less_ok (x y : Int) (w : World) : Calls Try.prog 32 #[.int .u64 x, .int .u64 y] w fun e w' => e = .returned (.bool (Sort.ltInt x y)) ∧ w' = w := by
  go_enter Try.func32, Try.ntmps32
  go_wp2_with (go_at_call 42; refine (isNaN_ok _ _).mono ?_; rintro e w' ⟨rfl, rfl⟩)
  go_ret
  exact ⟨rfl, rfl⟩

theorem not_lt {b : Bool} (h : (!b) = true) : b = false := by simpa using h
theorem not_ge {b : Bool} (h : (!b) = false) : b = true := by simpa using h
set_option maxHeartbeats 4000000 in
theorem ins_ok (g o cap a b : Nat) (T : TypeId) (R : List Value × List Value) (d : Array Int) (w : World) (hH : Sx g o T R d w) (hab : a ≤ b) (hb : b ≤ d.size) (hsz : d.size < 4611686018427387904) :
    Calls Try.prog 26 #[.slice (some ⟨g, o, none⟩) d.size cap, .int .i64 a, .int .i64 b] w fun e w' =>
      e = .returned (.tuple #[]) ∧ Sx g o T R (Sort.insertionSort Sort.ltInt d a b) w' ∧ Kp [g] w w' := by
  obtain ⟨n, hn⟩ : ∃ n, d.size = n := ⟨_, rfl⟩
  rw [hn] at hb hsz ⊢
  have HN : Hid (d.size = n) := hn
  clear hn
  go_enter Try.func26, Try.ntmps26
  go_wp2
  go_loopw [6] (fun vi wr => ∃ (i : Nat) (dk : Array Int), vi = .int .i64 i ∧ a < i ∧ i ≤ b + 1 ∧ dk.size = n ∧ (Sx g o T R dk wr ∧ Kp [g] w wr) ∧
      Sort.insOuter Sort.ltInt a b i dk = Sort.insOuter Sort.ltInt a b (a + 1) d) (fun vi _ => b + 1 - (intOf vi).toNat)
  case atStart => exact ⟨a + 1, d, by go_num, by omega, by omega, HN, ⟨hH, Kp.refl _ _⟩, rfl⟩
  case round =>
    obtain ⟨i, dk, rfl, hai, hib, hsk, hwr, hO⟩ := hrel
    have HO : Hid (Sort.insOuter Sort.ltInt a b i dk = Sort.insOuter Sort.ltInt a b (a + 1) d) := hO
    clear hO
    go_wp2
    · go_loopw [7] (fun vj wr2 => ∃ (j : Nat) (dj : Array Int), vj = .int .i64 j ∧ a ≤ j ∧ j ≤ i ∧ dj.size = n ∧ (Sx g o T R dj wr2 ∧ Kp [g] w wr2) ∧
          Sort.insInner Sort.ltInt a j dj = Sort.insInner Sort.ltInt a i dk) (fun vj _ => (intOf vj).toNat)
      case atStart => exact ⟨i, dk, rfl, by omega, Nat.le_refl _, hsk, hwr, rfl⟩
      case round =>
        obtain ⟨j, dj, rfl, haj, hji, hsj, ⟨hw2, hk2⟩, hI⟩ := hrel
        have hlt : i < b := by assumption
        obtain ⟨G, hG, hcw, hfw⟩ := hw2.fam hsj
        have HG : Hid (∀ t, G t = dj[t]!) := hG
        have HI : Hid (Sort.insInner Sort.ltInt a j dj = Sort.insInner Sort.ltInt a i dk) := hI
        have OUT : Hid ((j ≤ a ∨ Sort.ltInt dj[j]! dj[j - 1]! = false) → ∀ q, ∃ i' dk', Value.int .i64 ((i : Int) + 1) = .int .i64 (i' : Nat) ∧ a < i' ∧ i' ≤ b + 1 ∧ dk'.size = n ∧
            (Sx g o T R dk' (wr.drewN q) ∧ Kp [g] w (wr.drewN q)) ∧ Sort.insOuter Sort.ltInt a b i' dk' = Sort.insOuter Sort.ltInt a b (a + 1) d) := fun hs q =>
          ⟨i + 1, dj, by go_num, by omega, by omega, hsj, ⟨hw2.draws q, hk2.trans (kp_drewN _ _ _)⟩,
            by rw [← HO.out, insO_go _ _ _ _ _ hlt, ← HI.out, insI_stop _ _ _ _ hs]⟩
        have SW : Hid (∀ q, 1 ≤ j → j < n → Sx g o T R (Sort.swp dj j (j - 1)) (swW g o dj j (j - 1) q wr) ∧ Kp [g] w (swW g o dj j (j - 1) q wr)) :=
          fun q h1 h2 => hw2.swap hk2 (by omega) (by omega) q
        clear hG hI hwr hw2 hk2 hH
        go_wp2
        by_cases hja : a < j
        · go_quiet (first | (go_at_call 32; refine Calls.quiet_of_same (less_ok _ _ _)))
          go_wp2
          · have hl : Sort.ltInt (G j) (G (j - 1)) = true := by assumption
            go_region
            all_goals go_wp2
            go_roundw
            case rel =>
              refine ⟨j - 1, Sort.swp dj j (j - 1), by congr 1; omega, by omega, by omega, by rw [Sort.size_swp]; exact hsj, ?_, ?_⟩
              · rw [HG.out, HG.out]
                exact SW.out (nq + 1) (by omega) (by omega)
              · rw [← HI.out, insI_go Sort.ltInt a j dj hja (by rw [← HG.out, ← HG.out]; exact hl)]
            case measure => simp [intOf]; omega
          · have hl : Sort.ltInt (G j) (G (j - 1)) = false := by assumption
            go_roundw
            case rel => exact OUT.out (Or.inr (by rw [← HG.out, ← HG.out]; exact hl)) nq
            case measure => simp [intOf]; omega
        · go_quiet (first | (go_at_call 32; refine Calls.quiet_of_same (less_ok _ _ _)))
          go_wp2
          go_roundw
          case rel => exact OUT.out (Or.inl (by omega)) nq
          case measure => simp [intOf]; omega
    · have hge : ¬ i < b := by assumption
      go_end0
      exact ⟨rfl, by unfold Sort.insertionSort; rw [← HO.out, insO_stop _ _ _ _ _ hge]; exact hwr.1, hwr.2⟩

end Go.Proofs.Ytkppidcamhbddaa
