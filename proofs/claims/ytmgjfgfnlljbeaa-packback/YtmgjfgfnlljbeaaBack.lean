/-
  What is put ahead of any bytes is taken as it was, and these are left, a field has as many bytes as its width says, and a number that does not fit comes back less: the law PackBack returns true for every input.
  No condition beyond the form's own.
-/
import Derived.Test.YtmgjfgfnlljbeaaRows
import Derived.Test.YtmgjfgfnlljbeaaOa
import Derived.Test.YtmgjfgfnlljbeaaBa
import Derived.WalkKit
import Derived.Deep.QuietTactic
import Derived.BigQuiet
import Derived.ProofKit
import Derived.OpenShut
import Derived.ShutString
import Derived.SizedLaws
import Derived.ChangeOld
import Derived.Below
namespace Go.Proofs.Ytmgjfgfnlljbeaa.packBack
open Go.ChangeShapes Go.WideShapes Go.ChangeAt Go.RowKit
open Go.ChangeMaps (open_string shut_string)
set_option linter.unusedVariables false

theorem own : ownKnob Try.prog.godebug = none := by kernel_rfl
theorem length_bytes (s : ByteArray) : s.data.toList.length = s.size := by rw [Array.length_toList]; rfl

theorem u64_of (n : Int) (h : (Lit.int .u64 n).wf = true) : ∃ x : Nat, n = (x : Int) ∧ x < 18446744073709551616 := by
  have hb := bounds_u64 h
  exact ⟨n.toNat, by omega, by omega⟩

section
variable {H : Type} {enc : TypeId × Value → H} {P : Program} {W : World} {base : Nat} {spare : Nat → Bool} {held : Bool}
theorem okWide_array {n : Nat} {e t : TypeId} {r : Reach} {b0 : Nat} {v : Value} (ht : P.underlying t = some (.array n e)) (h : Value.okWide P W r b0 t v) : ∃ cs, v = .agg cs ∧ cs.size = P.cellsOf t := by
  simp only [Value.okWide, ht] at h
  obtain ⟨cs, h1, h2, _⟩ := h
  exact ⟨cs, h1, h2⟩
theorem array2 {T : Array Value} (h : T.size = 2) : ∃ a b, T = #[a, b] := by
  obtain ⟨l⟩ := T
  match l, h with
  | [a, b], _ => exact ⟨a, b, rfl⟩
theorem open_texts {r : Reach} {b0 : Nat} {e t : TypeId} {v : Value} {d : DataW H} {p : List MemPlace} (ht : P.underlying t = some (.array 2 e)) (he : P.underlying e = some .string) (hC : P.cellsOf t = 2) (hE : P.cellsOf e = 1)
    (hv : Value.okWide P W r b0 t v) (h : DataW.Trod enc P W base spare held t v d p) :
    ∃ x y : ByteArray, v = .agg #[.string x, .string y] ∧ d = .agg [.lit (.string x.data.toList), .lit (.string y.data.toList)] ∧ p = [] ∧ x.size ≤ maxLen ∧ y.size ≤ maxLen := by
  obtain ⟨cs, rfl, hsz⟩ := okWide_array ht hv
  obtain ⟨c0, c1, rfl⟩ := array2 (hsz.trans hC)
  obtain ⟨fuel, hf⟩ := h
  obtain ⟨xs, m, _, hx, _, hl, hg⟩ := DataW.trod_array ht hf
  match xs, hl with
  | [y0, y1], _ =>
    have g0 := hg 0 (by omega)
    have g1 := hg 1 (by omega)
    simp [Value.cells, hE] at g0 g1
    obtain ⟨a, e0, f0, wa⟩ := DataW.trod_string he g0
    obtain ⟨b, e1, f1, wb⟩ := DataW.trod_string he g1
    simp at e0 e1
    subst e0 e1 f0 f1
    simp only [Prod.mk.injEq] at hx
    exact ⟨a, b, rfl, by simpa using hx.1, by simpa using hx.2, wa, wb⟩
theorem shut_texts {e t : TypeId} {x y : ByteArray} (ht : P.underlying t = some (.array 2 e)) (he : P.underlying e = some .string) (hC : P.cellsOf t = 2) (hE : P.cellsOf e = 1) (wx : x.size ≤ maxLen) (wy : y.size ≤ maxLen) :
    DataW.Trod enc P W base spare held t (.agg #[.string x, .string y]) (.agg [.lit (.string x.data.toList), .lit (.string y.data.toList)]) [] := by
  refine ⟨2, ?_⟩
  simp [DataW.trod, ht, he, hC, hE, wx, wy, Value.cells, List.range, List.range.loop]
theorem sized_texts {ts : List TypeId} {ds : List (DataW H)} (h : (DataW.weightsEach P ts ds).all (· ≤ reachBytes) = true) {j : Nat} {t e : TypeId} {x y : List UInt8} (ht : ts[j]? = some t) (hd : ds[j]? = some (.agg [.lit (.string x), .lit (.string y)])) (hu : P.underlying t = some (.array 2 e)) :
    x.length ≤ reachBytes ∧ y.length ≤ reachBytes := by
  have h1 := List.all_eq_true.1 h _ (DataW.weights_mem_each ht hd x.length (by simp [DataW.weights, DataW.weightsAll, hu]))
  have h2 := List.all_eq_true.1 h _ (DataW.weights_mem_each ht hd y.length (by simp [DataW.weights, DataW.weightsAll, hu]))
  exact ⟨by simpa using h1, by simpa using h2⟩
end

theorem ret_bool {b : Bool} (h : b = true) : Ending.returned (.bool b) = .returned (.bool true) := by rw [h]
theorem one_more (k : Nat) : ((1 : Int) + (k : Int) == (k : Int) + 1) = true := by rw [beq_iff_eq]; omega
theorem not_le (a k : Nat) (h : k < a) : (!decide (a ≤ k)) = true := by simp; omega
theorem whole (s : ByteArray) : (s.toList == s.toList) = true := beq_self_eq_true _

theorem started (x y : ByteArray) (w : World) (n : Nat) : Below w.heap.size w ((w.alloc (.cells #[.string x, .string y] 34)).drewN n) :=
  ((Below.refl _ _).alloc (Nat.le_refl _) _).trans (below_draws _ _ _)

set_option maxHeartbeats 1000000 in
theorem below_0 (n : Nat) (s r : ByteArray) (hs : s.size ≤ 140737488351232) (hr : r.size ≤ 140737488351232) (k : Int) (h : k < 0) (w : World) :
    Calls Try.prog 5 #[.int .u64 (n : Int), .agg #[.string s, .string r], .int .i64 k] w fun e w' => e = .returned (.bool true) ∧ Below w.heap.size w w' := by
  have kp : ∀ w, _ := fun w => stayed (put_bad n k (by omega) w)
  have kt : ∀ (x : ByteArray) w, _ := fun x w => stayed (take_bad x k (by omega) w)
  have kpt : ∀ w, _ := fun w => stayed (putText_bad s k (by omega) w)
  go_enter Try.func5, Try.ntmps5
  go_wp2_with fail
  go_quiet (fail)
  have hb0 := started s r w nq
  generalize (w.alloc (.cells #[.string s, .string r] 34)).drewN nq = w0 at hb0 ⊢
  go_wp2_with fail
  refine (kp _).mono ?_
  rintro e w1 ⟨rfl, hb1⟩
  go_wp2_with fail
  refine (kt _ _).mono ?_
  rintro e w2 ⟨rfl, hb2⟩
  go_wp2_with fail
  refine (fixed_any _).mono ?_
  rintro e w3 ⟨rfl, hb3⟩
  go_wp2_with fail
  refine (kpt _).mono ?_
  rintro e w4 ⟨rfl, hb4⟩
  go_wp2_with fail
  go_ret
  have s1 := Nat.le_trans hb0.size hb1.size
  have s2 := Nat.le_trans s1 hb2.size
  have s3 := Nat.le_trans s2 hb3.size
  exact ⟨rfl, hb0.trans ((hb1.mono hb0.size).trans ((hb2.mono s1).trans ((hb3.mono s2).trans (hb4.mono s3))))⟩

set_option maxHeartbeats 1000000 in
theorem above_255 (n : Nat) (s r : ByteArray) (hs : s.size ≤ 140737488351232) (hr : r.size ≤ 140737488351232) (k : Int) (h : 255 < k) (w : World) :
    Calls Try.prog 5 #[.int .u64 (n : Int), .agg #[.string s, .string r], .int .i64 k] w fun e w' => e = .returned (.bool true) ∧ Below w.heap.size w w' := by
  have kp : ∀ w, _ := fun w => stayed (put_bad n k (by omega) w)
  have kt : ∀ (x : ByteArray) w, _ := fun x w => stayed (take_bad x k (by omega) w)
  have kpt : ∀ w, _ := fun w => stayed (putText_bad s k (by omega) w)
  go_enter Try.func5, Try.ntmps5
  go_wp2_with fail
  go_quiet (fail)
  have hb0 := started s r w nq
  generalize (w.alloc (.cells #[.string s, .string r] 34)).drewN nq = w0 at hb0 ⊢
  go_wp2_with fail
  refine (kp _).mono ?_
  rintro e w1 ⟨rfl, hb1⟩
  go_wp2_with fail
  refine (kt _ _).mono ?_
  rintro e w2 ⟨rfl, hb2⟩
  go_wp2_with fail
  refine (fixed_any _).mono ?_
  rintro e w3 ⟨rfl, hb3⟩
  go_wp2_with fail
  refine (kpt _).mono ?_
  rintro e w4 ⟨rfl, hb4⟩
  go_wp2_with fail
  go_ret
  have s1 := Nat.le_trans hb0.size hb1.size
  have s2 := Nat.le_trans s1 hb2.size
  have s3 := Nat.le_trans s2 hb3.size
  exact ⟨rfl, hb0.trans ((hb1.mono hb0.size).trans ((hb2.mono s1).trans ((hb3.mono s2).trans (hb4.mono s3))))⟩

set_option maxHeartbeats 1000000 in
theorem zero_long (n : Nat) (s r : ByteArray) (hs : s.size ≤ 140737488351232) (hr : r.size ≤ 140737488351232) (k : Nat) (c1 : decide (1 ≤ (k : Int)) = false) (h255 : k ≤ 255) (hk : k < s.size) (w : World) :
    Calls Try.prog 5 #[.int .u64 (n : Int), .agg #[.string s, .string r], .int .i64 (k : Int)] w fun e w' => e = .returned (.bool true) ∧ Below w.heap.size w w' := by
  have kp : ∀ w, _ := fun w => stayed (put_bad n (k : Int) (fun h => absurd (decide_eq_true h.1) (by rw [c1]; decide)) w)
  have kt : ∀ (x : ByteArray) w, _ := fun x w => stayed (take_bad x (k : Int) (fun h => absurd (decide_eq_true h.1) (by rw [c1]; decide)) w)
  have kpt : ∀ w, _ := fun w => stayed (putText_long s k (by omega) hk w)
  go_enter Try.func5, Try.ntmps5
  go_wp2_with fail
  go_quiet (fail)
  have hb0 := started s r w nq
  generalize (w.alloc (.cells #[.string s, .string r] 34)).drewN nq = w0 at hb0 ⊢
  go_wp2_with fail
  refine (kp _).mono ?_
  rintro e w1 ⟨rfl, hb1⟩
  go_wp2_with fail
  refine (kt _ _).mono ?_
  rintro e w2 ⟨rfl, hb2⟩
  go_wp2_with fail
  refine (fixed_any _).mono ?_
  rintro e w3 ⟨rfl, hb3⟩
  go_wp2_with fail
  refine (kpt _).mono ?_
  rintro e w4 ⟨rfl, hb4⟩
  go_wp2_with fail
  go_ret
  have s1 := Nat.le_trans hb0.size hb1.size
  have s2 := Nat.le_trans s1 hb2.size
  have s3 := Nat.le_trans s2 hb3.size
  exact ⟨ret_bool (not_le _ _ hk), hb0.trans ((hb1.mono hb0.size).trans ((hb2.mono s1).trans ((hb3.mono s2).trans (hb4.mono s3))))⟩

set_option maxHeartbeats 1000000 in
theorem zero_text (n : Nat) (s r : ByteArray) (hs : s.size ≤ 140737488351232) (hr : r.size ≤ 140737488351232) (k : Nat) (c1 : decide (1 ≤ (k : Int)) = false) (h255 : k ≤ 255) (hk : s.size ≤ k) (w : World) :
    Calls Try.prog 5 #[.int .u64 (n : Int), .agg #[.string s, .string r], .int .i64 (k : Int)] w fun e w' => e = .returned (.bool true) ∧ Below w.heap.size w w' := by
  have kp : ∀ w, _ := fun w => stayed (put_bad n (k : Int) (fun h => absurd (decide_eq_true h.1) (by rw [c1]; decide)) w)
  have kt : ∀ (x : ByteArray) w, _ := fun x w => stayed (take_bad x (k : Int) (fun h => absurd (decide_eq_true h.1) (by rw [c1]; decide)) w)
  have kpt : ∀ w, _ := fun w => putText_ok s k (by omega) hk w
  have ktt : ∀ w, _ := fun w => text_back s r hr k (by omega) hk w
  have zt := Pack.textB_size s k
  generalize Pack.textB s k = t at kpt ktt zt
  go_enter Try.func5, Try.ntmps5
  go_wp2_with fail
  go_quiet (fail)
  have hb0 := started s r w nq
  generalize (w.alloc (.cells #[.string s, .string r] 34)).drewN nq = w0 at hb0 ⊢
  go_wp2_with fail
  refine (kp _).mono ?_
  rintro e w1 ⟨rfl, hb1⟩
  go_wp2_with fail
  refine (kt _ _).mono ?_
  rintro e w2 ⟨rfl, hb2⟩
  go_wp2_with fail
  refine (fixed_any _).mono ?_
  rintro e w3 ⟨rfl, hb3⟩
  go_wp2_with fail
  refine (kpt _).mono ?_
  rintro e w4 ⟨rfl, hb4⟩
  go_wp2_with fail
  refine (ktt _).mono ?_
  rintro e w5 ⟨rfl, hb5⟩
  go_wp2_with fail
  go_ret
  have s1 := Nat.le_trans hb0.size hb1.size
  have s2 := Nat.le_trans s1 hb2.size
  have s3 := Nat.le_trans s2 hb3.size
  have s4 := Nat.le_trans s3 hb4.size
  exact ⟨ret_bool (one_more k), hb0.trans ((hb1.mono hb0.size).trans ((hb2.mono s1).trans ((hb3.mono s2).trans ((hb4.mono s3).trans (hb5.mono s4)))))⟩

set_option maxHeartbeats 1000000 in
theorem wide_long (n : Nat) (s r : ByteArray) (hs : s.size ≤ 140737488351232) (hr : r.size ≤ 140737488351232) (k : Nat) (h9 : 8 < k) (h255 : k ≤ 255) (hk : k < s.size) (w : World) :
    Calls Try.prog 5 #[.int .u64 (n : Int), .agg #[.string s, .string r], .int .i64 (k : Int)] w fun e w' => e = .returned (.bool true) ∧ Below w.heap.size w w' := by
  have kp : ∀ w, _ := fun w => stayed (put_bad n (k : Int) (by omega) w)
  have kt : ∀ (x : ByteArray) w, _ := fun x w => stayed (take_bad x (k : Int) (by omega) w)
  have kpt : ∀ w, _ := fun w => stayed (putText_long s k (by omega) hk w)
  go_enter Try.func5, Try.ntmps5
  go_wp2_with fail
  go_quiet (fail)
  have hb0 := started s r w nq
  generalize (w.alloc (.cells #[.string s, .string r] 34)).drewN nq = w0 at hb0 ⊢
  go_wp2_with fail
  refine (kp _).mono ?_
  rintro e w1 ⟨rfl, hb1⟩
  go_wp2_with fail
  refine (kt _ _).mono ?_
  rintro e w2 ⟨rfl, hb2⟩
  go_wp2_with fail
  refine (fixed_any _).mono ?_
  rintro e w3 ⟨rfl, hb3⟩
  go_wp2_with fail
  refine (kpt _).mono ?_
  rintro e w4 ⟨rfl, hb4⟩
  go_wp2_with fail
  go_ret
  have s1 := Nat.le_trans hb0.size hb1.size
  have s2 := Nat.le_trans s1 hb2.size
  have s3 := Nat.le_trans s2 hb3.size
  exact ⟨ret_bool (not_le _ _ hk), hb0.trans ((hb1.mono hb0.size).trans ((hb2.mono s1).trans ((hb3.mono s2).trans (hb4.mono s3))))⟩

set_option maxHeartbeats 1000000 in
theorem wide_text (n : Nat) (s r : ByteArray) (hs : s.size ≤ 140737488351232) (hr : r.size ≤ 140737488351232) (k : Nat) (h9 : 8 < k) (h255 : k ≤ 255) (hk : s.size ≤ k) (w : World) :
    Calls Try.prog 5 #[.int .u64 (n : Int), .agg #[.string s, .string r], .int .i64 (k : Int)] w fun e w' => e = .returned (.bool true) ∧ Below w.heap.size w w' := by
  have kp : ∀ w, _ := fun w => stayed (put_bad n (k : Int) (by omega) w)
  have kt : ∀ (x : ByteArray) w, _ := fun x w => stayed (take_bad x (k : Int) (by omega) w)
  have kpt : ∀ w, _ := fun w => putText_ok s k (by omega) hk w
  have ktt : ∀ w, _ := fun w => text_back s r hr k (by omega) hk w
  have zt := Pack.textB_size s k
  generalize Pack.textB s k = t at kpt ktt zt
  go_enter Try.func5, Try.ntmps5
  go_wp2_with fail
  go_quiet (fail)
  have hb0 := started s r w nq
  generalize (w.alloc (.cells #[.string s, .string r] 34)).drewN nq = w0 at hb0 ⊢
  go_wp2_with fail
  refine (kp _).mono ?_
  rintro e w1 ⟨rfl, hb1⟩
  go_wp2_with fail
  refine (kt _ _).mono ?_
  rintro e w2 ⟨rfl, hb2⟩
  go_wp2_with fail
  refine (fixed_any _).mono ?_
  rintro e w3 ⟨rfl, hb3⟩
  go_wp2_with fail
  refine (kpt _).mono ?_
  rintro e w4 ⟨rfl, hb4⟩
  go_wp2_with fail
  refine (ktt _).mono ?_
  rintro e w5 ⟨rfl, hb5⟩
  go_wp2_with fail
  go_ret
  have s1 := Nat.le_trans hb0.size hb1.size
  have s2 := Nat.le_trans s1 hb2.size
  have s3 := Nat.le_trans s2 hb3.size
  have s4 := Nat.le_trans s3 hb4.size
  exact ⟨ret_bool (one_more k), hb0.trans ((hb1.mono hb0.size).trans ((hb2.mono s1).trans ((hb3.mono s2).trans ((hb4.mono s3).trans (hb5.mono s4)))))⟩

set_option maxHeartbeats 1000000 in
theorem num_long (n : Nat) (s r : ByteArray) (hs : s.size ≤ 140737488351232) (hr : r.size ≤ 140737488351232) (k : Nat) (h1 : 1 ≤ k) (h8 : k ≤ 8) (hk : k < s.size) (w : World) :
    Calls Try.prog 5 #[.int .u64 (n : Int), .agg #[.string s, .string r], .int .i64 (k : Int)] w fun e w' => e = .returned (.bool true) ∧ Below w.heap.size w w' := by
  have kp : ∀ w, _ := fun w => put_ok n k h1 h8 w
  have kt : ∀ w, _ := fun w => num_back n r hr k h1 h8 w
  have kf : ∀ w, _ := fun w => fits_ok n k h1 h8 w
  have zf := Pack.putB_size n k
  have hq := mod_same n k
  have hle : n % 256 ^ k ≤ n := Nat.mod_le n _
  generalize decide (n < 256 ^ k) = c at kf hq
  generalize n % 256 ^ k = q at kt hq hle
  generalize Pack.putB n k = f at kp kt zf
  have kpt : ∀ w, _ := fun w => stayed (putText_long s k (by omega) hk w)
  go_enter Try.func5, Try.ntmps5
  go_wp2_with fail
  go_quiet (fail)
  have hb0 := started s r w nq
  generalize (w.alloc (.cells #[.string s, .string r] 34)).drewN nq = w0 at hb0 ⊢
  go_wp2_with fail
  refine (kp _).mono ?_
  rintro e w1 ⟨rfl, hb1⟩
  go_wp2_with fail
  refine (kt _).mono ?_
  rintro e w2 ⟨rfl, hb2⟩
  go_wp2_with fail
  refine (fixed_any _).mono ?_
  rintro e w3 ⟨rfl, hb3⟩
  go_wp2_with fail
  refine (kf _).mono ?_
  rintro e w3' ⟨rfl, rfl⟩
  go_wp2_with fail
  refine (kpt _).mono ?_
  rintro e w4 ⟨rfl, hb4⟩
  go_wp2_with fail
  go_ret
  have s1 := Nat.le_trans hb0.size hb1.size
  have s2 := Nat.le_trans s1 hb2.size
  have s3 := Nat.le_trans s2 hb3.size
  exact ⟨ret_bool (not_le _ _ hk), hb0.trans ((hb1.mono hb0.size).trans ((hb2.mono s1).trans ((hb3.mono s2).trans (hb4.mono s3))))⟩

set_option maxHeartbeats 1000000 in
theorem num_text (n : Nat) (s r : ByteArray) (hs : s.size ≤ 140737488351232) (hr : r.size ≤ 140737488351232) (k : Nat) (h1 : 1 ≤ k) (h8 : k ≤ 8) (hk : s.size ≤ k) (w : World) :
    Calls Try.prog 5 #[.int .u64 (n : Int), .agg #[.string s, .string r], .int .i64 (k : Int)] w fun e w' => e = .returned (.bool true) ∧ Below w.heap.size w w' := by
  have kp : ∀ w, _ := fun w => put_ok n k h1 h8 w
  have kt : ∀ w, _ := fun w => num_back n r hr k h1 h8 w
  have kf : ∀ w, _ := fun w => fits_ok n k h1 h8 w
  have zf := Pack.putB_size n k
  have hq := mod_same n k
  have hle : n % 256 ^ k ≤ n := Nat.mod_le n _
  generalize decide (n < 256 ^ k) = c at kf hq
  generalize n % 256 ^ k = q at kt hq hle
  generalize Pack.putB n k = f at kp kt zf
  have kpt : ∀ w, _ := fun w => putText_ok s k (by omega) hk w
  have ktt : ∀ w, _ := fun w => text_back s r hr k (by omega) hk w
  have zt := Pack.textB_size s k
  generalize Pack.textB s k = t at kpt ktt zt
  go_enter Try.func5, Try.ntmps5
  go_wp2_with fail
  go_quiet (fail)
  have hb0 := started s r w nq
  generalize (w.alloc (.cells #[.string s, .string r] 34)).drewN nq = w0 at hb0 ⊢
  go_wp2_with fail
  refine (kp _).mono ?_
  rintro e w1 ⟨rfl, hb1⟩
  go_wp2_with fail
  refine (kt _).mono ?_
  rintro e w2 ⟨rfl, hb2⟩
  go_wp2_with fail
  refine (fixed_any _).mono ?_
  rintro e w3 ⟨rfl, hb3⟩
  go_wp2_with fail
  refine (kf _).mono ?_
  rintro e w3' ⟨rfl, rfl⟩
  go_wp2_with fail
  refine (kpt _).mono ?_
  rintro e w4 ⟨rfl, hb4⟩
  go_wp2_with fail
  refine (ktt _).mono ?_
  rintro e w5 ⟨rfl, hb5⟩
  go_wp2_with fail
  go_ret
  have s1 := Nat.le_trans hb0.size hb1.size
  have s2 := Nat.le_trans s1 hb2.size
  have s3 := Nat.le_trans s2 hb3.size
  have s4 := Nat.le_trans s3 hb4.size
  exact ⟨ret_bool (one_more k), hb0.trans ((hb1.mono hb0.size).trans ((hb2.mono s1).trans ((hb3.mono s2).trans ((hb4.mono s3).trans (hb5.mono s4)))))⟩

theorem walk (n0 : Int) (hn0 : (Lit.int .u64 n0).wf = true) (s r : ByteArray) (hs : s.size ≤ 140737488351232) (hr : r.size ≤ 140737488351232) (k : Int) (_hk : (Lit.int .i64 k).wf = true) (w : World) :
    Calls Try.prog 5 #[.int .u64 n0, .agg #[.string s, .string r], .int .i64 k] w fun e w' => e = .returned (.bool true) ∧ Below w.heap.size w w' := by
  obtain ⟨n, rfl, hn⟩ := u64_of n0 hn0
  by_cases h0 : k < 0
  · exact below_0 n s r hs hr k h0 w
  by_cases h255 : 255 < k
  · exact above_255 n s r hs hr k h255 w
  obtain ⟨j, rfl⟩ : ∃ j : Nat, k = (j : Int) := ⟨k.toNat, by omega⟩
  by_cases hj : j < s.size
  · by_cases hz : j = 0
    · exact zero_long n s r hs hr j (decide_eq_false (by omega)) (by omega) hj w
    by_cases h8 : j ≤ 8
    · exact num_long n s r hs hr j (by omega) h8 hj w
    · exact wide_long n s r hs hr j (by omega) (by omega) hj w
  · by_cases hz : j = 0
    · exact zero_text n s r hs hr j (decide_eq_false (by omega)) (by omega) (by omega) w
    by_cases h8 : j ≤ 8
    · exact num_text n s r hs hr j (by omega) h8 (by omega) w
    · exact wide_text n s r hs hr j (by omega) (by omega) (by omega) w

set_option maxRecDepth 100000 in
theorem lifted (os : Os) (started : os.Started) (H : Type) (enc : TypeId × Value → H) :
    ReturnsInHanded {} Try.checked os 5 .any (Rows.packBackSpec.pre6 enc Try.prog Try.f5 Rows.packBackRow.domain false) (Rows.packBackSpec.post enc Try.prog Try.f5 false true false false) := by
  refine returnsInHanded_of_change_sized (C := Try.checked) own started (by kernel_rfl) Try.func5
    (ChangeSpec.witness6 (enc := enc) (C := Try.checked) false ⟨#[], #[.int .u64 0, .agg #[.string ByteArray.empty, .string ByteArray.empty], .int .i64 0], []⟩ 8 (by kernel_rfl) (by kernel_rfl) (by kernel_rfl) (by kernel_rfl)) ?_
  intro W base args ds gs before hval0 hW hcnd hsz0 _
  have hval : ∀ (j : Nat) t v, Try.f5.params[j]? = some t → args[j]? = some v → Value.okWide Try.prog W .any base t v := hval0
  have hsz : (DataW.weightsEach Try.prog (Try.f5.params.toList ++ Rows.packBackSpec.plain.varTypes Try.prog) (ds ++ gs)).all (· ≤ reachBytes) = true := hsz0
  have hW' := hW
  obtain ⟨p, q, hA0, hV, rfl, hfz, hnd⟩ := hW
  have hA : DataW.TrodAll enc Try.prog W 0 (fun _ => true) true Try.f5.params.toList args.toList ds p := hA0
  rw [Try.params5] at hA hval hsz
  obtain ⟨v0, vs0, d0, ds0, p0, q0, hargs, rfl, rfl, h0, r0⟩ := trodAll_cons hA
  obtain ⟨v1, vs1, d1, ds1, p1, q1, rfl, rfl, rfl, h1, r1⟩ := trodAll_cons r0
  obtain ⟨v2, vs2, d2, ds2, p2, q2, rfl, rfl, rfl, h2, r2⟩ := trodAll_cons r1
  obtain ⟨rfl, rfl, rfl⟩ := trodAll_nil r2
  obtain rfl : args = #[v0, v1, v2] := by cases args; simp_all
  obtain ⟨rfl, rfl⟩ := trodVars_none hV
  obtain ⟨a0, rfl, rfl, rfl, w0⟩ := open_int Try.underlying22 (hval 0 22 v0 rfl rfl) h0
  obtain ⟨a1, b1, rfl, rfl, rfl, w1, u1⟩ := open_texts Try.underlying34 Try.underlying9 (by kernel_rfl) (by kernel_rfl) (hval 1 34 v1 rfl rfl) h1
  have z1 := sized_texts hsz (j := 1) (t := 34) rfl rfl Try.underlying34
  rw [length_bytes, length_bytes] at z1
  obtain ⟨a2, rfl, rfl, rfl, w2⟩ := open_int Try.underlying3 (hval 2 3 v2 rfl rfl) h2
  clear hA0 hval0 hsz0
  simp only [List.append_nil] at hW'
  refine (walk a0 w0 a1 b1 z1.1 z1.2 a2 w2 W).mono fun e W' ⟨he, bel⟩ => ?_
  subst he
  exact ⟨_, rfl, _, _, _, [], [], [], hW', trodAll_mk1 (shut_bool Try.underlying4 _), (trodAll_cons_mk (shut_int Try.underlying22 w0) (trodAll_cons_mk (shut_texts Try.underlying34 Try.underlying9 (by kernel_rfl) (by kernel_rfl) w1 u1) (trodAll_cons_mk (shut_int Try.underlying3 w2) trodAll_mk0))), rfl, bel.frame _, fun h => by cases h⟩

theorem over : Rows.packBackRow.holds Try.pinned (OpenSpec.ofChange Rows.packBackSpec) :=
  OpenClaim.holds_of_wide 5 Try.f5 rfl rfl rfl rfl rfl rfl rfl ⟨rfl, rfl, rfl, rfl, rfl⟩ rfl rfl rfl rfl rfl (by kernel_rfl) Try.func5 (by kernel_rfl)
    (of_decide_eq_true (by kernel_rfl)) (by unfold Func.isWrapper; first | (rw [if_pos (by decide +kernel)]; kernel_rfl) | (rw [if_neg (by decide +kernel)]; exact ⟨rfl, rfl⟩))
    (fun os started H enc _ => lifted os started H enc)

end Go.Proofs.Ytmgjfgfnlljbeaa.packBack
namespace Go.Proofs.Ytmgjfgfnlljbeaa

theorem packBack_holds : Rows.PackBackSaid := packBack.over
#print axioms packBack_holds

end Go.Proofs.Ytmgjfgfnlljbeaa
