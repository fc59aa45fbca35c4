/-
  slices.heapSortOrdered of uint64.
  The bounds lie within the row.
-/
import Derived.Test.YtkppidcamhbddaaSoC
namespace Go.Proofs.Ytkppidcamhbddaa
set_option maxRecDepth 10000
open Go.RowKit

theorem heapB_size (hi F : Nat) : ∀ (k : Nat) (d : Array Int), (Sort.heapBuild Sort.ltInt hi F k d).size = d.size
  | 0, d => rfl
  | k + 1, d => by
    show (Sort.heapBuild Sort.ltInt hi F k (Sort.siftDown Sort.ltInt hi F k d)).size = _
    rw [heapB_size hi F k, sift_size Sort.ltInt hi F _ k d (Nat.le_refl _)]
set_option maxHeartbeats 8000000 in
theorem heap_ok (g o cap a b : Nat) (T : TypeId) (R : List Value × List Value) (d : Array Int) (w : World) (hH : Sx g o T R d w) (hab : a < b) (hb : b ≤ d.size) (hsz : d.size < 1152921504606846976) :
    Calls Try.prog 27 #[.slice (some ⟨g, o, none⟩) d.size cap, .int .i64 a, .int .i64 b] w fun e w' =>
      e = .returned (.tuple #[]) ∧ Sx g o T R (Sort.heapSort Sort.ltInt d a b) w' ∧ Kp [g] w w' := by
  obtain ⟨n, hn⟩ : ∃ n, d.size = n := ⟨_, rfl⟩
  rw [hn] at hb hsz ⊢
  have HN : Hid (d.size = n) := hn
  clear hn
  obtain ⟨m, hm⟩ : ∃ m, m = (b - a - 1) / 2 := ⟨_, rfl⟩
  have hmb : m < b - a := by omega
  have HM : Hid (m = (b - a - 1) / 2) := hm
  obtain ⟨L, hL⟩ : ∃ L, L = b - a := ⟨_, rfl⟩
  have hLz : (b : Int) - (a : Int) = (L : Int) := by omega
  have hq : ((L : Int) - 1).tdiv 2 = (m : Int) := by rw [Int.tdiv_eq_ediv_of_nonneg (by omega)]; omega
  have hmL : m < L := by omega
  have haL : a + L ≤ n := by omega
  clear hm hmb
  have HL : Hid (L = b - a) := hL
  clear hL
  go_enter Try.func27, Try.ntmps27
  go_wp2
  go_loopw [9] (fun vi wr => ∃ (x : Int) (k : Nat) (dk : Array Int), vi = .int .i64 x ∧ x = (k : Int) - 1 ∧ k ≤ m + 1 ∧ dk.size = n ∧ (Sx g o T R dk wr ∧ Kp [g] w wr) ∧ Hid (Sort.heapBuild Sort.ltInt L a k dk = Sort.heapBuild Sort.ltInt L a (m + 1) d))
    (fun vi _ => (intOf vi + 1).toNat)
  case atStart => exact ⟨_, m + 1, d, rfl, by go_num, by omega, HN, ⟨hH, Kp.refl _ _⟩, rfl⟩
  case round =>
    obtain ⟨x, k, dk, rfl, hx, hk1, hsk, ⟨hw, hk⟩, HE⟩ := hrel
    cases k with
    | succ k =>
      obtain rfl : x = (k : Int) := by omega
      have hkz : (0 : Int) ≤ (k : Int) := by omega
      have hC := sift_ok g o cap k L a T R dk wr hw (by omega) (by omega) (by omega)
      rw [hsk] at hC
      have hs2 : (Sort.siftDown Sort.ltInt L a k dk).size = n := by rw [sift_size Sort.ltInt L a _ k dk (Nat.le_refl _)]; exact hsk
      have HW : Hid (Kp [g] w wr) := hk
      have HE2 : Hid (Sort.heapBuild Sort.ltInt L a k (Sort.siftDown Sort.ltInt L a k dk) = Sort.heapBuild Sort.ltInt L a (m + 1) d) := HE.out
      generalize Sort.siftDown Sort.ltInt L a k dk = d2 at hC hs2 HE2
      clear hx hw hk HE
      go_wp2_with (go_at_call 37; refine hC.mono ?_; rintro e w1 ⟨rfl, h1, h2⟩)
      go_roundw
      case rel => exact ⟨_, k, d2, rfl, rfl, by omega, hs2, ⟨h1, HW.out.trans h2⟩, HE2⟩
      case measure => simp [intOf]; try omega
    | zero =>
      obtain rfl : x = -1 := by omega
      have HB : Hid (dk = Sort.heapBuild Sort.ltInt L a (m + 1) d) := HE.out
      clear HE hx
      go_wp2
      go_loopw [10] (fun vi wr => ∃ (x : Int) (k : Nat) (d1 : Array Int), vi = .int .i64 x ∧ x = (k : Int) - 1 ∧ k ≤ L ∧ d1.size = n ∧ (Sx g o T R d1 wr ∧ Kp [g] w wr) ∧ Hid (Sort.heapPop Sort.ltInt a k d1 = Sort.heapPop Sort.ltInt a L dk))
        (fun vi _ => (intOf vi + 1).toNat)
      case atStart => exact ⟨_, L, dk, rfl, by go_num, by omega, hsk, ⟨hw, hk⟩, rfl⟩
      case round =>
        obtain ⟨x, k, d1, rfl, hx, hk1, hs1, ⟨hw1, hk1'⟩, HE⟩ := hrel
        clear hw hk
        cases k with
        | succ k =>
          obtain rfl : x = (k : Int) := by omega
          have hkz : (0 : Int) ≤ (k : Int) := by omega
          obtain ⟨G, hG, hcw, hfw⟩ := hw1.fam hs1
          have HG : Hid (∀ t, G t = d1[t]!) := hG
          have SW : Hid (∀ q, a < n → a + k < n → Sx g o T R (Sort.swp d1 a (a + k)) (swW g o d1 a (a + k) q wr) ∧ Kp [g] w (swW g o d1 a (a + k) q wr)) := fun q h1 h2 => hw1.swap hk1' (by omega) (by omega) q
          have hs2 : (Sort.swp d1 a (a + k)).size = n := by rw [Sort.size_swp]; exact hs1
          have HE2 : Hid (Sort.heapPop Sort.ltInt a k (Sort.siftDown Sort.ltInt k a 0 (Sort.swp d1 a (a + k))) = Sort.heapPop Sort.ltInt a L dk) := HE.out
          have hs3 : (Sort.siftDown Sort.ltInt k a 0 (Sort.swp d1 a (a + k))).size = n := by rw [sift_size Sort.ltInt k a _ 0 _ (Nat.le_refl _)]; exact hs2
          clear hx hw1 hk1' HE hG
          obtain ⟨v3, hy3⟩ := cell?_setCell_some (w := wr) (p := ⟨g, o + a, none⟩) (x := .int .u64 (G (a + k))) (q := ⟨g, o + (a + k), none⟩) (hcw (a + k) (by omega))
          go_wp2_with fail
          go_region
          all_goals go_wp2_with fail
          all_goals (
            have h := SW.out 1 (by omega) (by omega)
            unfold swW at h
            rw [← HG.out, ← HG.out] at h
            obtain ⟨hx1, hx2⟩ := h
            have hC := sift_ok g o cap 0 k a T R _ _ hx1 (by omega) (by omega) (by omega)
            rw [hs2] at hC
            refine hC.mono ?_
            rintro e w1 ⟨rfl, h1, h2⟩
            have h3 := hx2.trans h2
            clear hx1 hx2 hC h2
            go_wp2
            go_roundw)
          case rel => exact ⟨_, k, _, rfl, rfl, by omega, hs3, ⟨h1, h3⟩, HE2⟩
          case measure => simp [intOf]; try omega
        | zero =>
          obtain rfl : x = -1 := by omega
          clear hx
          go_wp2
          go_end0
          have e : d1 = Sort.heapSort Sort.ltInt d a b := by
            have h := HE.out
            show d1 = Sort.heapPop Sort.ltInt a (b - a) (Sort.heapBuild Sort.ltInt (b - a) a ((b - a - 1) / 2 + 1) d)
            rw [← HM.out, ← HL.out, ← HB.out, ← h]
            rfl
          rw [← e]
          exact ⟨rfl, hw1, hk1'⟩

end Go.Proofs.Ytkppidcamhbddaa
