/-
  slices.Grow, slices.Concat and slices.Clone of letters: what each call answers.
  Each theorem says its own conditions: lists that memory bears.
-/
import Derived.Test.YthkfolohhdafkaaLeA
import Derived.Lib.AppendZerosOnto
namespace Go.Proofs.Ythkfolohhdafkaa
set_option maxRecDepth 10000
open Go.RowKit Go.Sort
set_option linter.unusedVariables false
set_option linter.unusedSimpArgs false

/- A list that was made since there were B blocks. -/
def MadeL (L : List Le) (B : Nat) (e : Ending) (w' : World) : Prop := ∃ a c, e = .returned (.slice a L.length c) ∧ Lg Le.vals 4 27 B a c L w'

set_option maxHeartbeats 1000000 in
theorem grow_ok (n : Nat) (hn : n * 40 ≤ 140737488351232) (w : World) : Calls Try.prog 26 #[.slice none 0 0, .int .i64 (n : Int)] w fun e w' => MadeL [] w.heap.size e w' ∧ Below w.heap.size w w' := by
  obtain ⟨iI, zI, hI, hz0, hsz, hby, hzs⟩ := infoLe
  rcases Nat.eq_zero_or_pos n with rfl | h0
  · have HM : MadeL [] w.heap.size (.returned (.slice none 0 0)) w := ⟨none, 0, rfl, Lg.none _ _ _⟩
    go_enter Try.func26, Try.ntmps26
    go_wp2_with fail
    go_ret
    exact ⟨HM, Below.refl _ _⟩
  · have hr := Go.Lib.run_append_nil_zeros (P := Try.prog) w 22 3 22 27 iI zI .i64 .i64 Try.underlying22 Try.underlying3 hI hz0 n h0 (by omega) (by omega) (by rw [hby]; omega)
    have hge := grownCap_ge w n 0 27
    have hle := grownCap_le_maxLen w n 0 27 (by simp only [maxLen]; omega)
    obtain ⟨cap, hcap⟩ : ∃ cap, grownCap w n 0 27 = cap := ⟨_, rfl⟩
    rw [hcap] at hr hge hle
    have hB : Below w.heap.size w (w.drew.alloc (.cells (Builtin.zeroCells zI.cells n ++ Builtin.zeroCells zI.cells (cap - n)) 27)) := ((Below.refl _ _).drew).alloc (Nat.le_refl _) _
    have HO : Ow Le.vals 4 27 w.heap.size cap [] (w.drew.alloc (.cells (Builtin.zeroCells zI.cells n ++ Builtin.zeroCells zI.cells (cap - n)) 27)) := by
      refine ⟨_, heap_alloc_new w.drew _, Nat.zero_le _, hle, ?_, by simp [flat]⟩
      simp only [Array.size_append, size_zeroCells, hzs]
      omega
    obtain ⟨W, hW⟩ : ∃ W, w.drew.alloc (.cells (Builtin.zeroCells zI.cells n ++ Builtin.zeroCells zI.cells (cap - n)) 27) = W := ⟨_, rfl⟩
    rw [hW] at hr hB HO
    have HM : MadeL [] w.heap.size (.returned (.slice (some ⟨w.heap.size, 0, none⟩) 0 cap)) W := ⟨_, _, rfl, Lg.of HO (Nat.le_refl _)⟩
    have n0 : decide ((n : Int) < 0) = false := by simp
    have n1 : decide (0 < (n : Int)) = true := by simp; omega
    have n2 : decide ((n : Int) > 0) = true := by simp; omega
    have c0 : (0 : Int) ≤ (cap : Int) := by omega
    clear hW hcap HO
    go_enter Try.func26, Try.ntmps26
    go_wp2_with (at_builtin; refine Lib.wpList_append_run _ rfl _ _ _ _ rfl _ _ rfl rfl _ _ hr ?_)
    go_ret
    exact ⟨HM, hB⟩

def upL (L M : List Le) : Nat → List Le
  | 0 => []
  | 1 => L
  | _ => L ++ M

set_option maxHeartbeats 4000000 in
theorem concat_ok (L M : List Le) (la ma : Option Addr) (lc mc G : Nat) (lz : (L.length + M.length) * 40 ≤ 140737488351232) (w : World) (hL : Li Le.vals 0 la L w) (hM : Li Le.vals 0 ma M w) (hG : Blk G #[.slice la L.length lc, .slice ma M.length mc] 22 w) :
    Calls Try.prog 21 #[.slice (some ⟨G, 0, none⟩) 2 2] w fun e w' => MadeL (L ++ M) w.heap.size e w' ∧ Below w.heap.size w w' := by
  obtain ⟨iI, zI, hI, hz0, hsz, hby, hzs⟩ := infoLe
  obtain ⟨n, hn⟩ : ∃ n, Hid (L.length = n) := ⟨_, rfl⟩
  obtain ⟨m, hm⟩ : ∃ m, Hid (M.length = m) := ⟨_, rfl⟩
  rw [hn.out, hm.out] at lz hG
  have e0 : w.cell? ⟨G, 0, none⟩ = some (.slice la n lc) := hG.cell 0 _ rfl
  have e1 : w.cell? ⟨G, 1, none⟩ = some (.slice ma m mc) := hG.cell 1 _ rfl
  have gl := hG.lt
  have n0 : (0 : Int) ≤ (n : Int) := by omega
  have m0 : (0 : Int) ≤ (m : Int) := by omega
  go_enter Try.func21, Try.ntmps21
  go_wp2_with fail
  go_loopw [3, 11] (fun sz iv wr => ∃ j s : Nat, j ≤ 2 ∧ iv = .int .i64 j ∧ sz = .int .i64 s ∧ w = wr ∧ (j = 0 ∧ s = 0 ∨ j = 1 ∧ n = s ∨ j = 2 ∧ n + m = s)) (fun _ iv _ => 2 - (intOf iv).toNat)
  case atStart => exact ⟨0, 0, by omega, rfl, rfl, rfl, .inl ⟨rfl, rfl⟩⟩
  case round =>
    obtain ⟨j, s, hj, rfl, rfl, rfl, h | h | h⟩ := hrel
    · obtain ⟨rfl, rfl⟩ := h
      go_wp2_with fail
      exact ⟨⟨1, n, by omega, by go_num, by go_num, trivial, .inr (.inl ⟨rfl, rfl⟩)⟩, by simp [intOf]⟩
    · obtain ⟨rfl, rfl⟩ := h
      go_wp2_with fail
      exact ⟨⟨2, n + m, by omega, by go_num, by go_num, trivial, .inr (.inr ⟨rfl, rfl⟩)⟩, by simp [intOf]⟩
    · obtain ⟨h2, h3⟩ := h
      have j2 : decide ((j : Int) < 2) = false := by simp; omega
      rw [h3] at lz
      have HS : Hid (n + m = s) := h3
      have hns : n ≤ s := by omega
      have hms : m ≤ s := by omega
      clear h2 h3
      go_wp2_with fail
      refine (grow_ok s lz w).mono ?_
      rintro r w1 ⟨⟨a, c, rfl, h0⟩, hb⟩
      simp only [List.length_nil]
      go_wp2_with fail
      go_loopw [6, 27] (fun sv iv wr => ∃ (j q : Nat) (a : Option Addr) (c : Nat), iv = .int .i64 j ∧ sv = .slice a q c ∧ Lg Le.vals 4 27 w.heap.size a c (upL L M j) wr ∧ Below w.heap.size w wr ∧ (j = 0 ∧ q = 0 ∨ j = 1 ∧ n = q ∨ j = 2 ∧ q = s)) (fun _ iv _ => 2 - (intOf iv).toNat)
      case atStart => exact ⟨0, 0, a, c, rfl, rfl, h0, hb, .inl ⟨rfl, rfl⟩⟩
      case round =>
        clear h0 hb
        obtain ⟨j, q, a, c, rfl, rfl, h0, hb, h⟩ := hrel
        rename World => wr
        have d0 : wr.cell? ⟨G, 0, none⟩ = some (.slice la n lc) := (hG.below hb).cell 0 _ rfl
        have d1 : wr.cell? ⟨G, 1, none⟩ = some (.slice ma m mc) := (hG.below hb).cell 1 _ rfl
        have xL := (hL.below hb).src (P := Try.prog) Le.vals_length Le.vals_one Try.underlying22 lc
        have xM := (hM.below hb).src (P := Try.prog) Le.vals_length Le.vals_one Try.underlying22 mc
        rw [hn.out] at xL
        rw [hm.out] at xM
        rcases h with h | h | h
        · obtain ⟨rfl, rfl⟩ := h
          clear d1 xM
          replace h0 : Lg Le.vals 4 27 w.heap.size a c [] wr := h0
          go_wp2_with (refine append_any Le.vals_length rfl _ _ rfl Try.underlying22 hI hz0 hsz hby hzs h0 hb.size (n := 0) rfl rfl (M := L) hn.out (by rw [hn.out]; exact xL) rfl (by have := HS.out; omega) (by have := HS.out; simp only [maxLen]; omega) ?_; intro a3 c3 W3 hG3 hK3 _)
          have hb3 : Below w.heap.size wr W3 := hK3.below (fun k hk => (h0.in k hk).1) hb.size
          exact ⟨⟨1, n, a3, c3, by go_num, by simp, hG3, hb.trans hb3, .inr (.inl ⟨rfl, rfl⟩)⟩, by simp [intOf]⟩
        · obtain ⟨rfl, rfl⟩ := h
          clear d0 xL
          replace h0 : Lg Le.vals 4 27 w.heap.size a c L wr := h0
          go_wp2_with (refine append_any Le.vals_length rfl _ _ rfl Try.underlying22 hI hz0 hsz hby hzs h0 hb.size hn.out rfl (M := M) hm.out (by rw [hm.out]; exact xM) rfl (by have := HS.out; omega) (by have := HS.out; simp only [maxLen]; omega) ?_; intro a3 c3 W3 hG3 hK3 _)
          have hb3 : Below w.heap.size wr W3 := hK3.below (fun k hk => (h0.in k hk).1) hb.size
          exact ⟨⟨2, s, a3, c3, by go_num, by simp [HS.out], hG3, hb.trans hb3, .inr (.inr ⟨rfl, rfl⟩)⟩, by simp [intOf]⟩
        · obtain ⟨rfl, rfl⟩ := h
          go_wp2_with fail
          go_ret
          exact ⟨⟨a, c, by simp [hn.out, hm.out, HS.out], h0⟩, hb⟩

set_option maxHeartbeats 1000000 in
theorem lclone_ok (L : List Le) (la : Option Addr) (lc : Nat) (hl : L.length * 40 ≤ 140737488355328) (w : World) (hS : Li Le.vals 0 la L w) : Calls Try.prog 20 #[.slice la L.length lc] w fun e w' => MadeL L w.heap.size e w' ∧ Below w.heap.size w w' := by
  obtain ⟨iI, zI, hI, hz0, hsz, hby, hzs⟩ := infoLe
  cases la with
  | none =>
    obtain rfl : L = [] := by
      rcases hS with h | ⟨_, _, h, _⟩
      · exact h
      · cases h
    have HC : MadeL [] w.heap.size (.returned (.slice none 0 0)) w := ⟨none, 0, rfl, Lg.none _ _ _⟩
    have hq : ∀ w, (binOp .eql 22 (.slice none 0 lc) (.slice none 0 0)).run Try.prog w = .ok (.bool true) w := fun w => by kernel_rfl
    clear hS hI
    show Calls Try.prog 20 #[.slice none 0 lc] w _
    go_enter Try.func20, Try.ntmps20
    go_wp2_with fail
    go_ret
    exact ⟨HC, Below.refl _ _⟩
  | some ad =>
    have b1 := blk_new w #[] 27
    have hB : Below w.heap.size w (w.alloc (.cells #[] 27)) := below_box w _
    have hS1 := hS.below hB
    have hx := hS1.src (P := Try.prog) Le.vals_length Le.vals_one Try.underlying22 lc
    have ho : Ow Le.vals 4 27 w.heap.size 0 [] (w.alloc (.cells #[] 27)) := Ow.empty b1
    obtain ⟨n, hn⟩ : ∃ n, Hid (L.length = n) := ⟨_, rfl⟩
    rw [hn.out] at hl hx ⊢
    have hq : ∀ w, (binOp .eql 22 (.slice (some ad) n lc) (.slice none 0 0)).run Try.prog w = .ok (.bool false) w := fun w => by kernel_rfl
    clear hS hS1 b1
    go_enter Try.func20, Try.ntmps20
    go_wp2_with (first | refine box_le0 rfl rfl ?_ | (refine append_ow Le.vals_length rfl _ _ rfl Try.underlying22 hI hz0 hsz hby hzs ho rfl (M := L) (by rw [hn.out]; exact hx) rfl (by simp [hn.out]; omega) (by simp [maxLen, hn.out]; omega) ?_; intro g' cap' w5 hg5 hb5 hc5; have hB6 : Below w.heap.size w w5 := hB.trans (hb5.below (by simp) hB.size)))
    go_ret
    refine ⟨⟨some ⟨g', 0, none⟩, cap', by simp, Lg.of (by simpa using hg5) (by rcases hc5 with rfl | h <;> simp at * <;> omega)⟩, hB6⟩

end Go.Proofs.Ythkfolohhdafkaa
