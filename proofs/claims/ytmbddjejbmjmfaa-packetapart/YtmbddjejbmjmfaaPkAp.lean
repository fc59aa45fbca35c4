/-
  Packets that differ in one tenant's lanes alone: where a byte lies, and that the bytes elsewhere are the same.
  No condition.
-/
import Derived.Test.YtmbddjejbmjmfaaPkFx
namespace Go.Proofs.Ytmbddjejbmjmfaa
set_option maxRecDepth 10000
open Go.RowKit Go.Sort

def withLanes (P : Pk) (n : Int) (L0 L1 L2 : List En) : Pk := ⟨P.n, P.r, withL P.f0 n L0, withL P.f1 n L1, withL P.f2 n L2⟩
def withF0 (P : Pk) (G : Nat → En) : Pk := ⟨P.n, P.r, G, P.f1, P.f2⟩
def withF1 (P : Pk) (G : Nat → En) : Pk := ⟨P.n, P.r, P.f0, G, P.f2⟩
def withF2 (P : Pk) (G : Nat → En) : Pk := ⟨P.n, P.r, P.f0, P.f1, G⟩
theorem put_f0 (P : Pk) (G : Nat → En) : putAt (pkc P) 35 (frc G).toList = pkc (withF0 P G) := by kernel_rfl
theorem put_f1 (P : Pk) (G : Nat → En) : putAt (pkc P) 71 (frc G).toList = pkc (withF1 P G) := by kernel_rfl
theorem put_f2 (P : Pk) (G : Nat → En) : putAt (pkc P) 109 (frc G).toList = pkc (withF2 P G) := by kernel_rfl

def preF (P : Pk) : List UInt8 := Pack.digits 1 (P.n 0) ++ (Pack.digits 4 (P.n 1) ++ (idb (P.n 2) (P.n 3) (P.n 4) ++ (nums 4 (rown P.n 5) ++ (nums 4 (rown P.n 13) ++ (idb (P.n 21) (P.n 22) (P.n 23) ++ (nums 4 (rown P.n 24) ++ (Pack.digits 1 (if P.r then 1 else 0) ++ (Pack.digits 4 (P.n 33) ++ Pack.digits 4 (P.n 34)))))))))
def midF (P : Pk) : List UInt8 := Pack.digits 1 (P.n 107) ++ Pack.digits 4 (P.n 108)
theorem preF_length (P : Pk) : (preF P).length = 128 := by simp only [preF, List.length_append, Pack.digits_length, idb_length, rown_length]
theorem midF_length (P : Pk) : (midF P).length = 5 := by simp only [midF, List.length_append, Pack.digits_length]
theorem body_F (P : Pk) : P.body = preF P ++ ((Fr.bytes P.f0).data.toList ++ ((Fr.bytes P.f1).data.toList ++ (midF P ++ (Fr.bytes P.f2).data.toList))) := by
  simp only [Pk.body, rawb, preF, midF, List.append_assoc]

theorem list_get (s : ByteArray) (i : Nat) (h : i < s.size) : s.data.toList[i]? = some s[i] := by
  rw [List.getElem?_eq_getElem (by rw [Pack.size_list]; exact h)]; rfl

theorem frame_get (F : Nat → En) (n : Int) (L : List En) (j : Nat) (hj : j < 168) (hn : ¬ ((j / 56 : Nat) : Int) = n) : (Fr.bytes F).data.toList[j]? = (Fr.bytes (withL F n L)).data.toList[j]? := by
  have h1 : j < (Fr.bytes F).size := by rw [Fr.bytes_size]; exact hj
  have h2 : j < (Fr.bytes (withL F n L)).size := by rw [Fr.bytes_size]; exact hj
  rw [list_get _ _ h1, list_get _ _ h2]
  exact congrArg some (apart_get F n L j h1 h2 hn)

theorem app_get {A B B' : List UInt8} {a : Nat} (hA : A.length = a) (i : Nat) (h : a ≤ i → B[i - a]? = B'[i - a]?) : (A ++ B)[i]? = (A ++ B')[i]? := by
  by_cases c : i < a
  · rw [List.getElem?_append_left (by omega), List.getElem?_append_left (by omega)]
  · rw [List.getElem?_append_right (by omega), List.getElem?_append_right (by omega), hA]
    exact h (by omega)
theorem apps_get {A A' B B' : List UInt8} {a : Nat} (hA : A.length = a) (hA' : A'.length = a) (i : Nat) (h0 : i < a → A[i]? = A'[i]?) (h : a ≤ i → B[i - a]? = B'[i - a]?) : (A ++ B)[i]? = (A' ++ B')[i]? := by
  by_cases c : i < a
  · rw [List.getElem?_append_left (by omega), List.getElem?_append_left (by omega)]
    exact h0 c
  · rw [List.getElem?_append_right (by omega), List.getElem?_append_right (by omega), hA, hA']
    exact h (by omega)

theorem list_same (P : Pk) (n : Int) (L0 L1 L2 : List En) (i : Nat) (hi : i < 637) (h0 : ¬ (128 + 56 * n ≤ (i : Int) ∧ (i : Int) < 128 + 56 * n + 56)) (h1 : ¬ (296 + 56 * n ≤ (i : Int) ∧ (i : Int) < 296 + 56 * n + 56)) (h2 : ¬ (469 + 56 * n ≤ (i : Int) ∧ (i : Int) < 469 + 56 * n + 56)) :
    P.sealed.data.toList[i]? = (withLanes P n L0 L1 L2).sealed.data.toList[i]? := by
  rw [sealed_list, sealed_list, List.getElem?_append_left (by rw [body_length]; exact hi), List.getElem?_append_left (by rw [body_length]; exact hi), body_F, body_F]
  have e : ∀ Q : Pk, Q.n = P.n → Q.r = P.r → preF Q = preF P ∧ midF Q = midF P := by
    intro Q q1 q2
    unfold preF midF
    rw [q1, q2]
    exact ⟨rfl, rfl⟩
  rw [(e (withLanes P n L0 L1 L2) rfl rfl).1, (e (withLanes P n L0 L1 L2) rfl rfl).2]
  refine app_get (preF_length P) i fun c0 => ?_
  refine apps_get (frb_length _) (frb_length _) _ (fun c1 => frame_get P.f0 n L0 (i - 128) (by omega) (by omega)) fun c1 => ?_
  refine apps_get (frb_length _) (frb_length _) _ (fun c2 => frame_get P.f1 n L1 (i - 128 - 168) (by omega) (by omega)) fun c2 => ?_
  refine app_get (midF_length P) _ fun c3 => ?_
  exact frame_get P.f2 n L2 (i - 128 - 168 - 168 - 5) (by omega) (by omega)

def liesB (i : Nat) (k : Int) (n : Int) : Bool := decide (k + 56 * n ≤ (i : Int)) && decide ((i : Int) < k + 56 * n + 56)

theorem byte_same (P : Pk) (n : Int) (L0 L1 L2 : List En) (i : Nat) (hi : i < 637) (s u : ByteArray) (hs : P.sealed = s) (hu : (withLanes P n L0 L1 L2).sealed = u) (h1 : i < s.size) (h2 : i < u.size) (hl : (liesB i 128 n || (liesB i 296 n || liesB i 469 n)) = false) : s[i] = u[i] := by
  simp only [Bool.or_eq_false_iff] at hl
  obtain ⟨q0, q1, q2⟩ := hl
  have z : ∀ k : Int, liesB i k n = false → ¬ (k + 56 * n ≤ (i : Int) ∧ (i : Int) < k + 56 * n + 56) := by
    intro k h hh
    unfold liesB at h
    rw [decide_eq_true hh.1, decide_eq_true hh.2] at h
    cases h
  have h := list_same P n L0 L1 L2 i hi (z _ q0) (z _ q1) (z _ q2)
  rw [hs, hu, list_get _ _ h1, list_get _ _ h2] at h
  exact Option.some.inj h

set_option maxHeartbeats 1000000 in
theorem lies_ok (i : Nat) (k : Int) (n : Int) (hi : i < 637) (hk : 0 ≤ k ∧ k ≤ 1000) (hn : 0 ≤ n ∧ n < 3) (w : World) : Calls Try.prog 20 #[.int .i64 (i : Int), .int .i64 k, .int .i64 n] w fun e w' => e = .returned (.bool (liesB i k n)) ∧ w' = w := by
  obtain ⟨hk0, hk1⟩ := hk
  obtain ⟨hn0, hn1⟩ := hn
  have hi2 : (i : Int) < 637 := by omega
  by_cases h1 : k + 56 * n ≤ (i : Int)
  · by_cases h2 : (i : Int) < k + 56 * n + 56
    · have e : liesB i k n = true := by unfold liesB; rw [decide_eq_true h1, decide_eq_true h2]; rfl
      rw [e]
      go_enter Try.func20, Try.ntmps20
      go_wp2_with fail
      go_ret
      exact ⟨rfl, rfl⟩
    · have e : liesB i k n = false := by unfold liesB; rw [decide_eq_true h1, decide_eq_false h2]; rfl
      rw [e]
      go_enter Try.func20, Try.ntmps20
      go_wp2_with fail
      go_ret
      exact ⟨rfl, rfl⟩
  · have e : liesB i k n = false := by unfold liesB; rw [decide_eq_false h1]; rfl
    rw [e]
    go_enter Try.func20, Try.ntmps20
    go_wp2_with fail
    go_ret
    exact ⟨rfl, rfl⟩

end Go.Proofs.Ytmbddjejbmjmfaa
