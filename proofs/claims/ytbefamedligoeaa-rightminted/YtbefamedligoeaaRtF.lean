/-
  Capabilities: the calls whose answers the document fixes; a table behind something that is done: what the law's fixed and done answer.
  Each theorem says its own conditions: a table that memory bears.
-/
import Derived.Test.YtbefamedligoeaaRtB
namespace Go.Proofs.Ytbefamedligoeaa
set_option maxRecDepth 10000
open Go.RowKit Go.Sort
set_option linter.unusedVariables false
set_option linter.unusedSimpArgs false

def fx1 : Ri := ⟨9, 1, 6, false⟩
theorem fxM : mintL 9 1 6 [] = [fx1] ∧ mintE 9 6 [] = 0 := ⟨rfl, rfl⟩
theorem fxC : chkR 9 2 [fx1] = some 1 ∧ chkR 9 1 [fx1] = none ∧ chkR 8 2 [fx1] = none := ⟨rfl, rfl, rfl⟩
theorem fxR : revL 9 [fx1] = [offR fx1] ∧ revE 9 [fx1] = 0 ∧ chkR 9 2 [offR fx1] = none := ⟨rfl, rfl, rfl⟩
theorem fxY : mayT [fx1] = true := rfl

set_option maxHeartbeats 2000000 in
theorem fixed_ok (w : World) : Calls Try.prog 13 #[] w fun e w' => e = .returned (.bool true) ∧ Below w.heap.size w w' := by
  have p1 : Calls Try.prog 7 #[.slice none 0 0, .int .u64 9, .int .u64 1, .int .i64 6] w fun e w' => (∃ a c, e = .returned (.tuple #[.slice a 1 c, .int .i64 0]) ∧ Lg Ri.vals 4 46 w.heap.size a c [fx1] w') ∧ Below w.heap.size w w' := by
    have h := mint_ok 9 1 6 [] none 0 (by decide) w (.inl rfl)
    unfold Minted at h
    rw [fxM.1, fxM.2] at h
    exact h
  have p2 : ∀ a c w, Li Ri.vals 0 a [fx1] w → Calls Try.prog 9 #[.slice a 1 c, .int .u64 9, .int .i64 2] w fun e w' => e = .returned (.tuple #[.int .u64 1, .int .i64 0]) ∧ Below w.heap.size w w' := fun a c w hl => by
    have h := check_ok 9 2 [fx1] a c (by decide) w hl
    rw [fxC.1] at h
    exact h
  have p3 : ∀ a c w, Li Ri.vals 0 a [fx1] w → Calls Try.prog 9 #[.slice a 1 c, .int .u64 9, .int .i64 1] w fun e w' => e = .returned (.tuple #[.int .u64 0, .int .i64 160]) ∧ Below w.heap.size w w' := fun a c w hl => by
    have h := check_ok 9 1 [fx1] a c (by decide) w hl
    rw [fxC.2.1] at h
    exact h
  have p4 : ∀ a c w, Li Ri.vals 0 a [fx1] w → Calls Try.prog 9 #[.slice a 1 c, .int .u64 8, .int .i64 2] w fun e w' => e = .returned (.tuple #[.int .u64 0, .int .i64 160]) ∧ Below w.heap.size w w' := fun a c w hl => by
    have h := check_ok 8 2 [fx1] a c (by decide) w hl
    rw [fxC.2.2] at h
    exact h
  have p5 : ∀ a c w, Li Ri.vals 0 a [fx1] w → Calls Try.prog 11 #[.slice a 1 c, .int .u64 9] w fun e w' => (∃ a c, e = .returned (.tuple #[.slice a 1 c, .int .i64 0]) ∧ Lg Ri.vals 4 46 w.heap.size a c [offR fx1] w') ∧ Below w.heap.size w w' := fun a c w hl => by
    have h := revoke_ok 9 [fx1] a c (by decide) w hl
    unfold Revoked at h
    rw [fxR.1, fxR.2.1] at h
    exact h
  have p6 : ∀ a c w, Li Ri.vals 0 a [offR fx1] w → Calls Try.prog 9 #[.slice a 1 c, .int .u64 9, .int .i64 2] w fun e w' => e = .returned (.tuple #[.int .u64 0, .int .i64 160]) ∧ Below w.heap.size w w' := fun a c w hl => by
    have h := check_ok 9 2 [offR fx1] a c (by decide) w hl
    rw [fxR.2.2] at h
    exact h
  have p7 : ∀ a c w, Li Ri.vals 0 a [fx1] w → Calls Try.prog 17 #[.slice a 1 c] w fun e w' => e = .returned (.bool true) ∧ Below w.heap.size w w' := fun a c w hl => by
    have h := may_ok [fx1] a c (by decide) w hl
    rw [fxY] at h
    exact h
  go_enter Try.func13, Try.ntmps13
  go_wp2_with fail
  refine p1.mono ?_
  rintro r w1 ⟨⟨a, c, rfl, hG⟩, hB⟩
  replace hG := hG.li.mono (Nat.zero_le _)
  clear p1
  go_wp2_with fail
  refine (p2 a c w1 hG).mono ?_
  rintro r w2 ⟨rfl, hb⟩
  replace hG := hG.below hb
  replace hB := below_next hB hb
  clear p2 hb
  go_wp2_with fail
  refine (p3 a c w2 hG).mono ?_
  rintro r w3 ⟨rfl, hb⟩
  replace hG := hG.below hb
  replace hB := below_next hB hb
  clear p3 hb
  go_wp2_with fail
  refine (p4 a c w3 hG).mono ?_
  rintro r w4 ⟨rfl, hb⟩
  replace hG := hG.below hb
  replace hB := below_next hB hb
  clear p4 hb
  go_wp2_with fail
  refine (p5 a c w4 hG).mono ?_
  rintro r w5 ⟨⟨a5, c5, rfl, h5⟩, hb⟩
  replace hG := hG.below hb
  replace hB := below_next hB hb
  replace h5 := h5.li.mono (Nat.zero_le _)
  clear p5 hb
  go_wp2_with fail
  refine (p6 a5 c5 w5 h5).mono ?_
  rintro r w6 ⟨rfl, hb⟩
  replace hG := hG.below hb
  replace hB := below_next hB hb
  clear p6 hb h5
  go_wp2_with fail
  refine (p7 a c w6 hG).mono ?_
  rintro r w7 ⟨rfl, hb⟩
  replace hB := below_next hB hb
  clear p7 hb hG
  go_wp2_with fail
  go_ret
  exact ⟨rfl, hB⟩

/- What is done: 0 mint, 1 revoke, 2 drop. -/
def doneL (L : List Ri) (x : Dx) : List Ri :=
  if x.d = 0 then (if mintE x.h x.g L = 0 then mintL x.h x.s x.g L else L)
  else if x.d = 1 then (if revE x.h L = 0 then revL x.h L else L)
  else if x.d = 2 then dropR x.s L
  else L
/- A table that was handed over, or one made since. -/
def Dn (L M : List Ri) (la : Option Addr) (lc B : Nat) (e : Ending) (w' : World) : Prop := ∃ a c, e = .returned (.slice a M.length c) ∧ M.length * 32 ≤ 140737488351232 ∧ (M = L ∧ a = la ∧ c = lc ∨ Lg Ri.vals 4 46 B a c M w')
theorem mint_len (h s : Nat) (g : Int) (L : List Ri) : (mintL h s g L).length ≤ 16 := by
  unfold mintL
  split
  · rename_i e
    unfold mintE at e
    by_cases h1 : h = 0 ∨ (fstR h L).isSome = true ∨ giftB g = false
    · rw [if_pos h1] at e; omega
    · rw [if_neg h1] at e
      by_cases h2 : 16 ≤ L.length
      · rw [if_pos h2] at e; omega
      · simp; omega
  · simp
theorem rev_len (h : Nat) (L : List Ri) : (revL h L).length ≤ L.length := by
  unfold revL
  split
  · simp
  · split
    · simp
    · simp
theorem drop_len (s : Nat) (L : List Ri) : (dropR s L).length ≤ L.length := List.length_filter_le _ _

set_option maxHeartbeats 2000000 in
theorem done_ok (x : Dx) (L : List Ri) (la : Option Addr) (lc : Nat) (lm : L.length * 32 ≤ 140737488351232) (w : World) (hS : Li Ri.vals 0 la L w) :
    Calls Try.prog 19 #[.slice la L.length lc, .agg x.arr] w fun e w' => Dn L (doneL L x) la lc w.heap.size e w' ∧ Below w.heap.size w w' := by
  have b1 := blk_new w x.arr 25
  have hB : Below w.heap.size w (w.alloc (.cells x.arr 25)) := below_box w _
  have p1 := mint_ok x.h x.s x.g L la lc lm
  have p2 := revoke_ok x.h L la lc lm
  have p3 := drop_ok x.s L la lc lm
  have HM : Hid (doneL L x = if x.d = 0 then (if mintE x.h x.g L = 0 then mintL x.h x.s x.g L else L) else if x.d = 1 then (if revE x.h L = 0 then revL x.h L else L) else if x.d = 2 then dropR x.s L else L) := rfl
  have m1 := mint_len x.h x.s x.g L
  have m2 := rev_len x.h L
  have m3 := drop_len x.s L
  have HK : ∀ w', Dn L L la lc w.heap.size (.returned (.slice la L.length lc)) w' := fun w' => ⟨la, lc, rfl, lm, .inl ⟨rfl, rfl, rfl⟩⟩
  have HN : ∀ M a c w', M.length * 32 ≤ 140737488351232 → Lg Ri.vals 4 46 w.heap.size a c M w' → Dn L M la lc w.heap.size (.returned (.slice a M.length c)) w' := fun M a c w' h1 h2 => ⟨a, c, rfl, h1, .inr h2⟩
  unfold Minted at p1
  unfold Revoked at p2
  unfold MadeRi at p3
  generalize mintL x.h x.s x.g L = M1 at p1 HM m1
  generalize revL x.h L = M2 at p2 HM m2
  generalize dropR x.s L = M3 at p3 HM m3
  generalize mintE x.h x.g L = e1 at p1 HM
  generalize revE x.h L = e2 at p2 HM
  have q0 : (w.alloc (.cells x.arr 25)).cell? ⟨w.heap.size, 0, none⟩ = some (.int .i64 x.d) := b1.cell 0 _ rfl
  have q1 : (w.alloc (.cells x.arr 25)).cell? ⟨w.heap.size, 1, none⟩ = some (.int .u64 (x.h : Int)) := b1.cell 1 _ rfl
  have q2 : (w.alloc (.cells x.arr 25)).cell? ⟨w.heap.size, 2, none⟩ = some (.int .u64 (x.s : Int)) := b1.cell 2 _ rfl
  have q3 : (w.alloc (.cells x.arr 25)).cell? ⟨w.heap.size, 3, none⟩ = some (.int .i64 x.g) := b1.cell 3 _ rfl
  obtain ⟨xd, xh, xs, xg⟩ := x
  simp only at p1 p2 p3 q0 q1 q2 q3 HM
  have hS1 := hS.below hB
  have hz : w.heap.size ≤ (w.alloc (.cells (Dx.mk xd xh xs xg).arr 25)).heap.size := hB.size
  by_cases h0 : xd = 0
  · subst h0
    by_cases he : e1 = 0
    · subst he
      have e : doneL L ⟨0, xh, xs, xg⟩ = M1 := by rw [HM.out]; simp
      rw [e]
      clear HM HK p2 p3 m2 m3 b1 e
      generalize hn : L.length = n at p1 ⊢
      go_enter Try.func19, Try.ntmps19
      go_wp2_with fail
      refine (p1 _ hS1).mono ?_
      rintro r w1 ⟨⟨a, c, rfl, hG⟩, hb⟩
      have HN' := HN M1 a c w1 (by omega) (hG.mono hz)
      replace hB := below_next hB hb
      clear HN hG hb p1 hS hS1 hz
      go_wp2_with fail
      go_ret
      exact ⟨HN', hB⟩
    · have e : doneL L ⟨0, xh, xs, xg⟩ = L := by rw [HM.out]; simp [he]
      rw [e]
      have d1 : (e1 == 0) = false := by simpa using he
      clear HM HN p2 p3 m2 m3 b1 e he
      generalize hn : L.length = n at p1 HK ⊢
      go_enter Try.func19, Try.ntmps19
      go_wp2_with fail
      refine (p1 _ hS1).mono ?_
      rintro r w1 ⟨⟨a, c, rfl, hG⟩, hb⟩
      replace hB := below_next hB hb
      clear hG hb p1 hS hS1 hz
      go_wp2_with fail
      go_ret
      exact ⟨HK w1, hB⟩
  · have d0 : (xd == 0) = false := by simpa using h0
    by_cases h1 : xd = 1
    · subst h1
      by_cases he : e2 = 0
      · subst he
        have e : doneL L ⟨1, xh, xs, xg⟩ = M2 := by rw [HM.out]; simp
        rw [e]
        clear HM HK p1 p3 m1 m3 b1 e d0 h0
        generalize hn : L.length = n at p2 lm m2 ⊢
        go_enter Try.func19, Try.ntmps19
        go_wp2_with fail
        refine (p2 _ hS1).mono ?_
        rintro r w1 ⟨⟨a, c, rfl, hG⟩, hb⟩
        have HN' := HN M2 a c w1 (by omega) (hG.mono hz)
        replace hB := below_next hB hb
        clear HN hG hb p2 hS hS1 hz
        go_wp2_with fail
        go_ret
        exact ⟨HN', hB⟩
      · have e : doneL L ⟨1, xh, xs, xg⟩ = L := by rw [HM.out]; simp [he]
        rw [e]
        have d1 : (e2 == 0) = false := by simpa using he
        clear HM HN p1 p3 m1 m3 b1 e he d0 h0
        generalize hn : L.length = n at p2 HK ⊢
        go_enter Try.func19, Try.ntmps19
        go_wp2_with fail
        refine (p2 _ hS1).mono ?_
        rintro r w1 ⟨⟨a, c, rfl, hG⟩, hb⟩
        replace hB := below_next hB hb
        clear hG hb p2 hS hS1 hz
        go_wp2_with fail
        go_ret
        exact ⟨HK w1, hB⟩
    · have d1 : (xd == 1) = false := by simpa using h1
      by_cases h2 : xd = 2
      · subst h2
        have e : doneL L ⟨2, xh, xs, xg⟩ = M3 := by rw [HM.out]; simp
        rw [e]
        clear HM HK p1 p2 m1 m2 b1 e d0 d1 h0 h1
        generalize hn : L.length = n at p3 lm m3 ⊢
        go_enter Try.func19, Try.ntmps19
        go_wp2_with fail
        refine (p3 _ hS1).mono ?_
        rintro r w1 ⟨⟨a, c, rfl, hG⟩, hb⟩
        have HN' := HN M3 a c w1 (by omega) (hG.mono hz)
        replace hB := below_next hB hb
        clear HN hG hb p3 hS hS1 hz
        go_wp2_with fail
        go_ret
        exact ⟨HN', hB⟩
      · have e : doneL L ⟨xd, xh, xs, xg⟩ = L := by rw [HM.out]; simp [h0, h1, h2]
        rw [e]
        have d2 : (xd == 2) = false := by simpa using h2
        clear HM HN p1 p2 p3 m1 m2 m3 b1 e h0 h1 h2
        generalize hn : L.length = n at HK ⊢
        go_enter Try.func19, Try.ntmps19
        go_wp2_with fail
        go_ret
        exact ⟨HK _, hB⟩

end Go.Proofs.Ytbefamedligoeaa
