/-
  slices.Clone, slices.IndexFunc and slices.DeleteFunc of frames that were received, with the questions that the program asks: what each call answers.
  No condition.
-/
import Derived.Test.YthgmecgknhphmaaKtA
import Derived.Test.YthgmecgknhphmaaBase
namespace Go.Proofs.Ythgmecgknhphmaa
set_option maxRecDepth 10000
open Go.RowKit Go.Sort

/- What Clone hands back: nil, or a row that was made since. -/
def Cloned (L : List Kt) (B : Nat) (e : Ending) (w' : World) : Prop := ∃ a c, e = .returned (.slice a L.length c) ∧ Lg Kt.vals 38 64 B a c L w'

set_option maxHeartbeats 1000000 in
theorem clone_ok (L : List Kt) (la : Option Addr) (lc : Nat) (hl : L.length * 352 ≤ 140737488355328) (w : World) (hS : Li Kt.vals 0 la L w) : Calls Try.prog 60 #[.slice la L.length lc] w fun e w' => Cloned L w.heap.size e w' ∧ Below w.heap.size w w' := by
  obtain ⟨iI, zI, hI, hz0, hsz, hby, hzs⟩ := infoKt
  cases la with
  | none =>
    obtain rfl : L = [] := by
      rcases hS with h | ⟨_, _, h, _⟩
      · exact h
      · cases h
    have HC : Cloned [] w.heap.size (.returned (.slice none 0 0)) w := ⟨none, 0, rfl, Lg.none _ _ _⟩
    have hq : ∀ w, (binOp .eql 30 (.slice none 0 lc) (.slice none 0 0)).run Try.prog w = .ok (.bool true) w := fun w => by kernel_rfl
    clear hS hI
    show Calls Try.prog 60 #[.slice none 0 lc] w _
    go_enter Try.func60, Try.ntmps60
    go_wp2_with fail
    go_ret
    exact ⟨HC, Below.refl _ _⟩
  | some ad =>
    have b1 := blk_new w #[] 64
    have hB : Below w.heap.size w (w.alloc (.cells #[] 64)) := below_box w _
    have hS1 := hS.below hB
    have hx := hS1.src (P := Try.prog) Kt.vals_length Kt.vals_one Try.underlying30 lc
    have ho : Ow Kt.vals 38 64 w.heap.size 0 [] (w.alloc (.cells #[] 64)) := Ow.empty b1
    have e0 : ∀ g : Nat, Value.slice (some ⟨g, 0, none⟩) 0 0 = Value.slice (some ⟨g, 0, none⟩) ([] : List Kt).length 0 := fun _ => rfl
    obtain ⟨n, hn⟩ : ∃ n, Hid (L.length = n) := ⟨_, rfl⟩
    rw [hn.out] at hl hx ⊢
    have hq : ∀ w, (binOp .eql 30 (.slice (some ad) n lc) (.slice none 0 0)).run Try.prog w = .ok (.bool false) w := fun w => by kernel_rfl
    clear hS hS1 b1
    go_enter Try.func60, Try.ntmps60
    go_wp2_with (first | refine box_no rfl rfl ?_ | (refine append_ow Kt.vals_length rfl _ _ rfl Try.underlying30 hI hz0 hsz hby hzs ho rfl (M := L) (by rw [hn.out]; exact hx) rfl (by simp [hn.out]; omega) (by simp [maxLen, hn.out]; omega) ?_; intro g' cap' w5 hg5 hb5 hc5; have hB6 : Below w.heap.size w w5 := hB.trans (hb5.below (by simp) hB.size)))
    go_ret
    refine ⟨⟨some ⟨g', 0, none⟩, cap', by simp, Lg.of (by simpa using hg5) (by rcases hc5 with rfl | h <;> simp at * <;> omega)⟩, hB6⟩

/- What IndexFunc hands back: the first one's place, or -1. -/
def Fnd (p : Kt → Bool) (L : List Kt) (e : Ending) : Prop :=
  (∃ j k, e = .returned (.int .i64 ((j : Nat) : Int)) ∧ L[j]? = some k ∧ p k = true ∧ ∀ k' ∈ L.take j, p k' = false) ∨ (e = .returned (.int .i64 (-1)) ∧ ∀ k ∈ L, p k = false)

set_option maxHeartbeats 2000000 in
theorem ixold_ok (x : Kt) (X : Nat) (L : List Kt) (la : Option Addr) (lc : Nat) (lm : L.length ≤ 9223372036854775807) (w : World) (hS : Li Kt.vals 0 la L w) (hX : Blk X x.arr 64 w) :
    Calls Try.prog 77 #[.slice la L.length lc, .func (.func 115) #[] #[.pointer (some ⟨X, 0, none⟩)]] w fun e w' => Fnd (oldB x) L e ∧ Below w.heap.size w w' := by
  obtain ⟨n, hn⟩ : ∃ n, L.length = n := ⟨_, rfl⟩
  rw [hn] at lm ⊢
  have HN : Hid (L.length = n) := hn
  clear hn
  go_enter Try.func77, Try.ntmps77
  go_wp2_with fail
  go_loopw [8] (fun iv wr => ∃ j : Nat, j ≤ n ∧ iv = .int .i64 j ∧ Hid (∀ k ∈ L.take j, oldB x k = false) ∧ Li Kt.vals 0 la L wr ∧ Blk X x.arr 64 wr ∧ Below w.heap.size w wr) (fun iv _ => n - (intOf iv).toNat)
  case atStart => exact ⟨0, by omega, rfl, fun d h => by simp at h, hS, hX, Below.refl _ _⟩
  case round =>
    clear hS hX
    obtain ⟨j, hj, rfl, h0, hS, hX, hB⟩ := hrel
    by_cases hjn : j < n
    · have j0 : (j : Int) < (n : Int) := by omega
      have j1 : (0 : Int) ≤ (j : Int) := by omega
      obtain ⟨k, hk⟩ : ∃ k, L[j]? = some k := ⟨_, List.getElem?_eq_getElem (by rw [HN.out]; exact hjn)⟩
      obtain ⟨b, o, rfl, _, hbl, hr⟩ := hS.at Kt.vals_length j k hk
      have pk := older_ok x k X wr hX
      obtain ⟨t, ht⟩ : ∃ t, oldB x k = t := ⟨_, rfl⟩
      have HT : Hid (oldB x k = t) := ht
      rw [ht] at pk
      clear ht
      go_wp2_with (refine load_range rfl 64 _ rfl k.vals hr rfl Try.underlying64 rfl sizeKt ?_)
      refine pk.mono ?_
      rintro r w1 ⟨rfl, hb⟩
      replace hS := hS.below hb
      replace hX := hX.below hb
      replace hB := hB.trans (hb.mono hB.size)
      clear hb pk hr
      cases t with
      | true =>
        have HF : Fnd (oldB x) L (.returned (.int .i64 (j : Int))) := .inl ⟨j, k, rfl, hk, HT.out, h0.out⟩
        clear HT h0 hk hS hX
        go_wp2_with fail
        go_ret
        exact ⟨HF, hB⟩
      | false =>
        have HS : Hid (∀ k ∈ L.take (j + 1), oldB x k = false) := by
          intro e he
          rw [List.take_add_one, hk] at he
          rcases List.mem_append.1 he with he | he
          · exact h0.out e he
          · simp at he
            rw [he]
            exact HT.out
        clear HT h0 hk
        go_wp2_with fail
        exact ⟨⟨j + 1, by omega, by go_num, HS, hS, hX, hB⟩, by simp [intOf]; omega⟩
    · obtain rfl : j = n := by omega
      have HF : Fnd (oldB x) L (.returned (.int .i64 (-1))) := .inr ⟨rfl, fun k hk => h0.out k (by rw [List.take_of_length_le (by rw [HN.out]; omega)]; exact hk)⟩
      clear h0 HN hS hX
      go_wp2_with fail
      go_ret
      exact ⟨HF, hB⟩

set_option maxHeartbeats 2000000 in
theorem ixis_ok (i : Int) (r : Nat) (X Y : Nat) (L : List Kt) (la : Option Addr) (lc : Nat) (lm : L.length ≤ 9223372036854775807) (w : World) (hS : Li Kt.vals 0 la L w) (hX : Blk X #[.int .i64 i] 3 w) (hY : Blk Y #[.int .u32 (r : Int)] 22 w) :
    Calls Try.prog 77 #[.slice la L.length lc, .func (.func 78) #[] #[.pointer (some ⟨X, 0, none⟩), .pointer (some ⟨Y, 0, none⟩)]] w fun e w' => Fnd (isB i r) L e ∧ Below w.heap.size w w' := by
  obtain ⟨n, hn⟩ : ∃ n, L.length = n := ⟨_, rfl⟩
  rw [hn] at lm ⊢
  have HN : Hid (L.length = n) := hn
  clear hn
  go_enter Try.func77, Try.ntmps77
  go_wp2_with fail
  go_loopw [8] (fun iv wr => ∃ j : Nat, j ≤ n ∧ iv = .int .i64 j ∧ Hid (∀ k ∈ L.take j, isB i r k = false) ∧ Li Kt.vals 0 la L wr ∧ Blk X #[.int .i64 i] 3 wr ∧ Blk Y #[.int .u32 (r : Int)] 22 wr ∧ Below w.heap.size w wr) (fun iv _ => n - (intOf iv).toNat)
  case atStart => exact ⟨0, by omega, rfl, fun d h => by simp at h, hS, hX, hY, Below.refl _ _⟩
  case round =>
    clear hS hX hY
    obtain ⟨j, hj, rfl, h0, hS, hX, hY, hB⟩ := hrel
    by_cases hjn : j < n
    · have j0 : (j : Int) < (n : Int) := by omega
      have j1 : (0 : Int) ≤ (j : Int) := by omega
      obtain ⟨k, hk⟩ : ∃ k, L[j]? = some k := ⟨_, List.getElem?_eq_getElem (by rw [HN.out]; exact hjn)⟩
      obtain ⟨b, o, rfl, _, hbl, hr⟩ := hS.at Kt.vals_length j k hk
      have pk := sought_ok i r k X Y wr hX hY
      obtain ⟨t, ht⟩ : ∃ t, isB i r k = t := ⟨_, rfl⟩
      have HT : Hid (isB i r k = t) := ht
      rw [ht] at pk
      clear ht
      go_wp2_with (refine load_range rfl 64 _ rfl k.vals hr rfl Try.underlying64 rfl sizeKt ?_)
      refine pk.mono ?_
      rintro r w1 ⟨rfl, hb⟩
      replace hS := hS.below hb
      replace hX := hX.below hb
      replace hY := hY.below hb
      replace hB := hB.trans (hb.mono hB.size)
      clear hb pk hr
      cases t with
      | true =>
        have HF : Fnd (isB i r) L (.returned (.int .i64 (j : Int))) := .inl ⟨j, k, rfl, hk, HT.out, h0.out⟩
        clear HT h0 hk hS hX hY
        go_wp2_with fail
        go_ret
        exact ⟨HF, hB⟩
      | false =>
        have HS : Hid (∀ k ∈ L.take (j + 1), isB i r k = false) := by
          intro e he
          rw [List.take_add_one, hk] at he
          rcases List.mem_append.1 he with he | he
          · exact h0.out e he
          · simp at he
            rw [he]
            exact HT.out
        clear HT h0 hk
        go_wp2_with fail
        exact ⟨⟨j + 1, by omega, by go_num, HS, hS, hX, hY, hB⟩, by simp [intOf]; omega⟩
    · obtain rfl : j = n := by omega
      have HF : Fnd (isB i r) L (.returned (.int .i64 (-1))) := .inr ⟨rfl, fun k hk => h0.out k (by rw [List.take_of_length_le (by rw [HN.out]; omega)]; exact hk)⟩
      clear h0 HN hS hX hY
      go_wp2_with fail
      go_ret
      exact ⟨HF, hB⟩


def Asks (x : Kt) (B : Nat) (e : Ending) (w' : World) : Prop := ∃ X, e = .returned (.func (.func 115) #[] #[.pointer (some ⟨X, 0, none⟩)]) ∧ B ≤ X ∧ Blk X x.arr 64 w'
theorem olderThan_ok (x : Kt) (w : World) : Calls Try.prog 104 #[.agg x.arr] w fun e w' => Asks x w.heap.size e w' ∧ Below w.heap.size w w' := by
  have b1 := blk_new w x.arr 64
  have hB : Below w.heap.size w (w.alloc (.cells x.arr 64)) := below_box w _
  have hmf : ∀ (fn : Fn) (first cap : Array Value) (w : World), (Instr.makeFunc fn first cap).run Try.prog w = .ok (.func fn first cap) w := fun _ _ _ _ => rfl
  have HA : Asks x w.heap.size (.returned (.func (.func 115) #[] #[.pointer (some ⟨w.heap.size, 0, none⟩)])) (w.alloc (.cells x.arr 64)) := ⟨_, rfl, Nat.le_refl _, b1⟩
  clear b1
  go_enter Try.func104, Try.ntmps104
  go_wp2_with fail
  go_ret
  exact ⟨HA, hB⟩

end Go.Proofs.Ythgmecgknhphmaa
