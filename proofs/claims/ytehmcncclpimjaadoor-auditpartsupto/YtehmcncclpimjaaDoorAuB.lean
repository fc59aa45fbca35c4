/-
  Records: what the program's nextNumber, lastTick, Check, Failed and Add answer.
  Each theorem says its own conditions: lists that memory bears.
-/
import Derived.Test.YtehmcncclpimjaaDoorAuA
import Derived.Test.YtehmcncclpimjaaDoorAuM
import Derived.Test.YtehmcncclpimjaaDoorLr
namespace Go.Proofs.YtehmcncclpimjaaDoor
set_option maxRecDepth 10000
set_option linter.unusedSimpArgs false
open Go.RowKit Go.Sort
set_option linter.unusedVariables false
set_option linter.unusedSimpArgs false

def lastT (L : List Rc) : Nat := match L.getLast? with | none => 0 | some r => r.t
theorem tickA_max (L : List Rc) (t : Nat) : tickA L t = max t (lastT L) := by
  unfold tickA lastT
  cases L.getLast? <;> simp
theorem lastT_take {L : List Rc} {i : Nat} (hi : i < L.length) : lastT (L.take i) = if i = 0 then 0 else match L[i - 1]? with | none => 0 | some p => p.t := by
  unfold lastT
  rw [List.getLast?_take]
  by_cases h : i = 0
  · simp [h]
  · obtain ⟨p, hp⟩ : ∃ p, L[i - 1]? = some p := ⟨_, List.getElem?_eq_getElem (by omega)⟩
    simp [h, hp]
theorem okA_tick {L : List Rc} {i : Nat} {r : Rc} (h : L[i]? = some r) : okA L i r = (decide (r.n = i + 1) && decide (lastT (L.take i) ≤ r.t)) := by
  have hi := (List.getElem?_eq_some_iff.1 h).1
  rw [lastT_take hi]
  unfold okA
  by_cases h0 : i = 0
  · simp [h0]
  · obtain ⟨p, hp⟩ : ∃ p, L[i - 1]? = some p := ⟨_, List.getElem?_eq_getElem (by omega)⟩
    simp [h0, hp]
theorem lastT_get {L : List Rc} (h : L ≠ []) : ∃ r, L[L.length - 1]? = some r ∧ lastT L = r.t := by
  unfold lastT
  rw [List.getLast?_eq_getElem?]
  obtain ⟨r, hr⟩ : ∃ r, L[L.length - 1]? = some r := ⟨_, List.getElem?_eq_getElem (by have := List.length_pos_iff.2 h; omega)⟩
  exact ⟨r, hr, by rw [hr]⟩
theorem failN_take {L : List Rc} {j : Nat} {r : Rc} (h : L[j]? = some r) : failN (L.take (j + 1)) = failN (L.take j) + (if r.k ≠ 0 then 1 else 0) := by
  rw [List.take_add_one, h]
  exact failN_snoc _ _
theorem failN_take_le (L : List Rc) (j : Nat) : failN (L.take j) ≤ L.length := Nat.le_trans (failN_le _) (List.length_take_le' ..)

theorem nextN_ok (n : Nat) (la : Option Addr) (lc : Nat) (hn : n ≤ 9223372036854775807) (w : World) : Calls Tryd.prog 24 #[.slice la n lc] w fun e w' => e = .returned (.int .u64 ((n + 1 : Nat) : Int)) ∧ w' = w := by
  go_enter Tryd.func24, Tryd.ntmps24
  go_wp2_with fail
  go_ret
  exact ⟨rfl, rfl⟩

theorem lastT_ok (L : List Rc) (la : Option Addr) (lc : Nat) (lm : L.length ≤ 9223372036854775807) (w : World) (hS : Li Rc.vals 0 la L w) : Calls Tryd.prog 25 #[.slice la L.length lc] w fun e w' => e = .returned (.int .u32 (lastT L : Int)) ∧ w' = w := by
  by_cases h0 : L = []
  · subst h0
    show Calls Tryd.prog 25 #[.slice la 0 lc] w _
    clear hS lm
    go_enter Tryd.func25, Tryd.ntmps25
    go_wp2_with fail
    go_ret
    exact ⟨rfl, rfl⟩
  · obtain ⟨r, hr, ht⟩ := lastT_get h0
    obtain ⟨b, o, rfl, _, hbl, hg⟩ := hS.at Rc.vals_length _ r hr
    rw [ht]
    have hp := List.length_pos_iff.2 h0
    clear hS hr ht h0
    generalize L.length = n at lm hp hg ⊢
    have c1 : w.cell? ⟨b, o + (n - 1) * 4 + 1, none⟩ = some (.int .u32 (r.t : Int)) := hg 1 _ rfl
    have d0 : ((n : Int) == 0) = false := by simp; omega
    have d1 : (0 : Int) ≤ (n : Int) - 1 := by omega
    have d2 : (n : Int) - 1 < (n : Int) := by omega
    have d3 : ((n : Int) - 1).toNat = n - 1 := by omega
    have d4 : (n : Int) - 1 = ((n - 1 : Nat) : Int) := by omega
    clear hg
    go_enter Tryd.func25, Tryd.ntmps25
    go_wp2_with fail
    go_ret
    exact ⟨rfl, rfl⟩

set_option maxHeartbeats 2000000 in
theorem failed_ok (L : List Rc) (la : Option Addr) (lc : Nat) (lm : L.length ≤ 9223372036854775807) (w : World) (hS : Li Rc.vals 0 la L w) :
    Calls Tryd.prog 14 #[.slice la L.length lc] w fun e w' => e = .returned (.int .i64 (failN L : Int)) ∧ Below w.heap.size w w' := by
  obtain ⟨n, hn⟩ : ∃ n, Hid (L.length = n) := ⟨_, rfl⟩
  rw [hn.out] at lm ⊢
  go_enter Tryd.func14, Tryd.ntmps14
  go_wp2_with fail
  go_loopw [3, 8] (fun cv iv wr => ∃ j k : Nat, j ≤ n ∧ k ≤ j ∧ cv = .int .i64 k ∧ iv = .int .i64 j ∧ Hid (failN (L.take j) = k) ∧ Li Rc.vals 0 la L wr ∧ Below w.heap.size w wr) (fun _ iv _ => n - (intOf iv).toNat)
  case atStart => exact ⟨0, 0, by omega, by omega, rfl, rfl, rfl, hS, Below.refl _ _⟩
  case round =>
    clear hS
    obtain ⟨j, k, hj, hk, rfl, rfl, HK, hS, hB⟩ := hrel
    rename World => wr
    by_cases hjn : j < n
    · have j0 : (j : Int) < (n : Int) := by omega
      have j1 : (0 : Int) ≤ (j : Int) := by omega
      obtain ⟨x, hx⟩ : ∃ k, L[j]? = some k := ⟨_, List.getElem?_eq_getElem (by rw [hn.out]; exact hjn)⟩
      have HN : Hid (failN (L.take (j + 1)) = k + (if x.k ≠ 0 then 1 else 0)) := by show _ = _; rw [failN_take hx, HK.out]
      obtain ⟨b, o, rfl, _, hbl, hr⟩ := hS.at Rc.vals_length j x hx
      have b1 := blk_new wr x.arr 27
      have hb := below_box wr (.cells x.arr 27)
      go_upto_region 5 with (go_big_may; first | refine load_range rfl 27 _ rfl x.vals hr rfl Tryd.underlying27 rfl sizeRc ?_ | refine alloc_zero zeroRc rfl rfl ?_ | refine store_new rfl 27 _ _ rfl (cells := x.arr) rfl rfl sizeRc rfl x.arr_one ?_)
      try simp only [Act.put]
      generalize wr.alloc (Obj.cells x.arr 27) = W1 at b1 hb ⊢
      replace hS := hS.below hb
      replace hB := hB.trans (hb.mono hB.size)
      have c0 : W1.cell? ⟨wr.heap.size, 3, none⟩ = some (.int .i64 x.k) := b1.cell 3 _ rfl
      clear hb hr hbl b1 hx
      generalize wr.heap.size = z at c0 ⊢
      by_cases h : x.k = 0
      · have d1 : (x.k != 0) = false := by simp [h]
        have HN2 : Hid (failN (L.take (j + 1)) = k) := by show _ = _; rw [HN.out, if_neg (by simp [h])]; rfl
        clear h HN
        go_wp2_with fail
        exact ⟨⟨j + 1, k, by omega, by omega, rfl, by go_num, HN2, hS, hB⟩, by simp [intOf]; omega⟩
      · have d1 : (x.k != 0) = true := by simp [h]
        have HN2 : Hid (failN (L.take (j + 1)) = k + 1) := by show _ = _; rw [HN.out, if_pos h]
        clear h HN
        go_wp2_with fail
        exact ⟨⟨j + 1, k + 1, by omega, by omega, by go_num, by go_num, HN2, hS, hB⟩, by simp [intOf]; omega⟩
    · obtain rfl : j = n := by omega
      have e : failN L = k := by have := HK.out; rw [← hn.out, List.take_length] at this; exact this
      have he : Hid (failN L = k) := e
      clear hS e
      go_wp2_with fail
      go_ret
      exact ⟨by simp [he.out], hB⟩

set_option maxHeartbeats 4000000 in
theorem acheck_ok (L : List Rc) (la : Option Addr) (lc : Nat) (lk : L.length ≤ lc) (lm : L.length ≤ 9223372036854775806) (w : World) (hS : Li Rc.vals 0 la L w) :
    Calls Tryd.prog 12 #[.slice la L.length lc] w fun e w' => e = .returned (.bool (chkA L)) ∧ Below w.heap.size w w' := by
  have pl := fun (j : Nat) (hj : j ≤ L.length) (w : World) (hS : Li Rc.vals 0 la L w) => lastT_ok (L.take j) la lc (by have := List.length_take_le' j L; omega) w (hS.take Rc.vals_length j)
  have HA : Hid (chkA L = chkTo L L.length) := rfl
  obtain ⟨n, hn⟩ : ∃ n, Hid (L.length = n) := ⟨_, rfl⟩
  rw [hn.out] at lk lm pl HA ⊢
  go_enter Tryd.func12, Tryd.ntmps12
  go_wp2_with fail
  go_loopw [8] (fun iv wr => ∃ j : Nat, j ≤ n ∧ iv = .int .i64 j ∧ Hid (chkTo L j = true) ∧ Li Rc.vals 0 la L wr ∧ Below w.heap.size w wr) (fun iv _ => n - (intOf iv).toNat)
  case atStart => exact ⟨0, by omega, rfl, rfl, hS, Below.refl _ _⟩
  case round =>
    clear hS
    obtain ⟨j, hj, rfl, h0, hS, hB⟩ := hrel
    rename World => wr
    by_cases hjn : j < n
    · have j0 : (j : Int) < (n : Int) := by omega
      have j1 : (0 : Int) ≤ (j : Int) := by omega
      obtain ⟨x, hx⟩ : ∃ k, L[j]? = some k := ⟨_, List.getElem?_eq_getElem (by rw [hn.out]; exact hjn)⟩
      have HF : okA L j x = false → Hid (chkA L = false) := fun h => chkTo_no L j x hx h
      have HT : okA L j x = true → Hid (chkTo L (j + 1) = true) := fun h => by show _ = _; rw [chkTo_succ L j x hx, h0.out, h]; rfl
      rw [okA_tick hx] at HF HT
      have hlen : (L.take j).length = j := by rw [List.length_take, hn.out]; omega
      have pl := pl j (by omega)
      rw [hlen] at pl
      obtain ⟨b, o, rfl, _, hbl, hr⟩ := hS.at Rc.vals_length j x hx
      have b1 := blk_new wr x.arr 27
      have hb := below_box wr (.cells x.arr 27)
      have k1 : (j : Int) ≤ (lc : Int) := by omega
      go_upto_region 4 with (go_big_may; first | refine load_range rfl 27 _ rfl x.vals hr rfl Tryd.underlying27 rfl sizeRc ?_ | refine alloc_zero zeroRc rfl rfl ?_ | refine store_new rfl 27 _ _ rfl (cells := x.arr) rfl rfl sizeRc rfl x.arr_one ?_)
      try simp only [Act.put]
      generalize wr.alloc (Obj.cells x.arr 27) = W1 at b1 hb ⊢
      replace hS := hS.below hb
      replace hB := hB.trans (hb.mono hB.size)
      have q0 : ∀ d' os, (grow (redrawn W1 d') os).cell? ⟨wr.heap.size, 0, none⟩ = some (.int .u64 (x.n : Int)) := cell_regrown (b1.cell 0 _ rfl)
      have q1 : ∀ d' os, (grow (redrawn W1 d') os).cell? ⟨wr.heap.size, 1, none⟩ = some (.int .u32 (x.t : Int)) := cell_regrown (b1.cell 1 _ rfl)
      have r0 : ∀ d' os, Calls Tryd.prog 24 #[.slice (some ⟨b, o, none⟩) j lc] (grow (redrawn W1 d') os) fun e w'' => e = .returned (.int .u64 ((j + 1 : Nat) : Int)) ∧ ∃ p : Regrown, w'' = grow (redrawn W1 p.d) p.os := fun d' os => (nextN_ok j _ lc (by omega) _).mono fun e w'' h => ⟨h.1, ⟨d', os⟩, h.2⟩
      have r1 : ∀ d' os, Calls Tryd.prog 25 #[.slice (some ⟨b, o, none⟩) j lc] (grow (redrawn W1 d') os) fun e w'' => e = .returned (.int .u32 (lastT (L.take j) : Int)) ∧ ∃ p : Regrown, w'' = grow (redrawn W1 p.d) p.os := fun d' os => (pl _ (hS.below (below_regrown W1 d' os))).mono fun e w'' h => ⟨h.1, ⟨d', os⟩, h.2⟩
      clear hb hr hbl pl hx hlen
      generalize wr.heap.size = z at b1 q0 q1 ⊢
      generalize lastT (L.take j) = tk at r1 HF HT
      go_upto_region 5 with fail
      try simp only [Act.put, List.setIfInBounds_toArray, List.set_cons_zero, List.set_cons_succ]
      by_cases h1 : x.n = j + 1
      · have d1 : ((x.n : Int) != ((j + 1 : Nat) : Int)) = false := by simp [h1]
        have d1' : ((x.n : Int) != (j : Int) + 1) = false := by simp [h1]
        by_cases h2 : tk ≤ x.t
        · have d2 : decide ((x.t : Int) < (tk : Int)) = false := by simp; omega
          have d3 : decide (x.t < tk) = false := by simp; omega
          have HT2 := HT (by simp [h1, h2])
          clear HF HT h1 h2
          refine wp_region_quiet_below (by kernel_rfl) (by kernel_rfl) ?_
          repeat (go_big_quiet_step (first | with_reducible exact r0 _ _ | with_reducible exact r1 _ _))
          refine wpQuiet_nil ?_
          intro _ hw'
          obtain ⟨⟨dq, osq⟩, hw''⟩ := hw'
          have hb := below_regrown W1 dq osq
          subst hw''
          generalize grow (redrawn W1 dq) osq = w1 at hb ⊢
          replace hS := hS.below hb
          replace hB := hB.trans (hb.mono hB.size)
          clear hb q0 q1 r0 r1 b1
          go_wp2_with fail
          exact ⟨⟨j + 1, by omega, by go_num, HT2, hS, hB⟩, by simp [intOf]; omega⟩
        · have d2 : decide ((x.t : Int) < (tk : Int)) = true := by simp; omega
          have d3 : decide (x.t < tk) = true := by simp; omega
          have HF2 := HF (by simp [h2])
          clear HF HT h1 h2
          refine wp_region_quiet_below (by kernel_rfl) (by kernel_rfl) ?_
          repeat (go_big_quiet_step (first | with_reducible exact r0 _ _ | with_reducible exact r1 _ _))
          refine wpQuiet_nil ?_
          intro _ hw'
          obtain ⟨⟨dq, osq⟩, hw''⟩ := hw'
          have hb := below_regrown W1 dq osq
          subst hw''
          generalize grow (redrawn W1 dq) osq = w1 at hb ⊢
          replace hB := hB.trans (hb.mono hB.size)
          clear hb q0 q1 r0 r1 b1 hS
          go_wp2_with fail
          go_ret
          exact ⟨by simp [HF2.out], hB⟩
      · have d1 : ((x.n : Int) != ((j + 1 : Nat) : Int)) = true := by simp; omega
        have d1' : ((x.n : Int) != (j : Int) + 1) = true := by simp; omega
        have HF2 := HF (by simp [h1])
        clear HF HT h1
        refine wp_region_quiet_below (by kernel_rfl) (by kernel_rfl) ?_
        repeat (go_big_quiet_step (first | with_reducible exact r0 _ _ | with_reducible exact r1 _ _))
        refine wpQuiet_nil ?_
        intro _ hw'
        obtain ⟨⟨dq, osq⟩, hw''⟩ := hw'
        have hb := below_regrown W1 dq osq
        subst hw''
        generalize grow (redrawn W1 dq) osq = w1 at hb ⊢
        replace hB := hB.trans (hb.mono hB.size)
        clear hb q0 q1 r0 r1 b1 hS
        go_wp2_with fail
        go_ret
        exact ⟨by simp [HF2.out], hB⟩
    · obtain rfl : j = n := by omega
      clear hS
      go_wp2_with fail
      go_ret
      exact ⟨by simp [HA.out, h0.out], hB⟩

set_option maxHeartbeats 4000000 in
theorem add_ok (t : Nat) (c : ByteArray) (k : Int) (L : List Rc) (la : Option Addr) (lc : Nat) (lm : (L.length + 1) * 40 ≤ 140737488355328) (w : World) (hS : Li Rc.vals 0 la L w) :
    Calls Tryd.prog 8 #[.slice la L.length lc, .int .u32 (t : Int), .string c, .int .i64 k] w fun e w' => MadeRc (addA L t c k) w.heap.size e w' ∧ Below w.heap.size w w' := by
  obtain ⟨iI, zI, hI, hz0, hsz, hby, hzs⟩ := infoRc
  have pn := nextN_ok L.length la lc (by omega) w
  have pl := lastT_ok L la lc (by omega) w hS
  have pc := rcclone_ok L la lc (by omega)
  have HM : ∀ a c' w', Lg Rc.vals 4 27 w.heap.size a c' (L ++ [⟨L.length + 1, tickA L t, c, k⟩]) w' → MadeRc (addA L t c k) w.heap.size (.returned (.slice a (L.length + 1) c')) w' := fun a c' w' h => ⟨a, c', by simp [addA], h⟩
  rw [tickA_max] at HM
  obtain ⟨n, hn⟩ : ∃ n, Hid (L.length = n) := ⟨_, rfl⟩
  rw [hn.out] at lm pn pl pc HM ⊢
  generalize lastT L = tk at pl HM
  have Ht : ∃ m, (t < tk ∧ m = tk) ∨ (¬ t < tk ∧ m = t) := by
    by_cases h : t < tk
    · exact ⟨tk, .inl ⟨h, rfl⟩⟩
    · exact ⟨t, .inr ⟨h, rfl⟩⟩
  obtain ⟨m, hm⟩ := Ht
  rw [show max t tk = m by omega] at HM
  obtain ⟨X, hX⟩ : ∃ X : Rc, X = ⟨n + 1, m, c, k⟩ := ⟨_, rfl⟩
  rw [← hX] at HM
  have hXv : Hid (X.arr = #[.int .u64 ((n : Int) + 1), .int .u32 (m : Int), .string c, .int .i64 k]) := by rw [hX]; exact rfl
  clear hX
  go_enter Tryd.func8, Tryd.ntmps8
  go_wp2_with fail
  refine pn.mono ?_
  rintro r w1 ⟨rfl, e1⟩
  subst e1
  clear pn
  go_wp2_with fail
  refine pl.mono ?_
  rintro r w2 ⟨rfl, e2⟩
  subst e2
  clear pl
  rcases hm with ⟨hm, rfl⟩ | ⟨hm, rfl⟩
  all_goals go_upto_region 2 with (go_big_may; first | refine alloc_zero zeroRc rfl rfl ?_ | refine store_new rfl 27 _ _ rfl (cells := #[.int .u64 ((n : Int) + 1), .int .u32 (m : Int), .string c, .int .i64 k]) rfl rfl sizeRc rfl (by rw [← hXv.out]; exact X.arr_one) ?_)
  all_goals (
    have b1 := blk_new w2 X.arr 27
    have hB := below_box w2 (.cells X.arr 27)
    rw [hXv.out] at b1 hB
    try simp only [Act.put, List.setIfInBounds_toArray, List.set_cons_zero, List.set_cons_succ]
    generalize w2.alloc (Obj.cells _ 27) = W at b1 hB ⊢
    rw [← hXv.out] at b1
    replace hS := hS.below hB
    clear hXv hm)
  · refine wp_region_held_drew (S := fun v => Below W.heap.size W v) (by kernel_rfl) ((Below.refl _ _).drew) (fun hHeld => ?_)
    refine tkQ 0 hHeld ?_
    try simp only [yy]
    refine' tkH 2 (v := _) rfl (by kernel_rfl) (fun _ _ _ h => h) (yieldsIf_load_mid (by rfl) _ _ rfl w2.heap.size 0 rfl X.vals _ ?hS2 Tryd.underlying27 rfl sizeRc) hHeld ?rest2
    case hS2 => exact fun w h => (b1.below h).whole
    try simp only [yy]
    refine wpAnyH_ready (rs := [1, 3]) (by kernel_rfl) (by simp) ?_
    refine AllReadyH.cons rfl (fun K hK => ?_) (AllReadyH.cons rfl (fun K hK => ?_) (AllReadyH.nil))
    · go_simp
      go_wp2_with (refine (pc _ (hS.below hHeld)).mono ?_; rintro r u1 ⟨⟨aX, cX, rfl, hX⟩, hb⟩)
      rw [hn.out]
      replace hX := hX.mono hHeld.size
      refine hK.out _ _ (below_next hHeld hb) (fun hHeld => ?_)
      clear hK K hb
      refine rd1 3 (fun K hK => ?_)
      rw [if_pos (by rfl)]
      refine wp_Rc _ rfl X rfl ?_
      intro g2 u2 hl2 hb
      replace hX := hX.below hb
      refine hK.out _ _ (below_next hHeld hb) (fun hHeld => ?_)
      clear hK K hb
      try simp only [yy]
      refine rd1 4 (fun K hK => ?_)
      rw [if_pos (by rfl)]
      refine wp_append_any Rc.vals_length _ _ rfl Tryd.underlying22 hI hz0 hsz hby hzs hX hHeld.size hn.out rfl (M := [X]) (m := 1) rfl (hl2.src Rc.vals_length Rc.vals_one Tryd.underlying22 1) rfl rfl (by omega) (by simp only [maxLen]; omega) ?_
      intro aZ cZ u3 hZ hkZ _
      refine hK.out _ _ (hHeld.trans (hkZ.below (fun k hk => (hX.in k hk).1) hHeld.size)) (fun hHeld => ?_)
      clear hK K hkZ hl2 hX
      try simp only [yy]
      refine tkQ 5 hHeld ?_
      try simp only [yy]
      refine wpAnyH_done (by kernel_rfl) ?_ _
      have hB3 := below_next hB hHeld
      have HM3 := HM _ _ _ (hZ.mono hB.size)
      go_wp2_with fail
      go_ret
      exact ⟨HM3, hB3⟩
    · rw [if_pos (by rfl)]
      refine wp_Rc _ rfl X rfl ?_
      intro g2 u4 hl2 hb
      refine hK.out _ _ (below_next hHeld hb) (fun hHeld => ?_)
      clear hK K hb
      try simp only [yy]
      refine rd1 1 (fun K hK => ?_)
      go_simp
      go_wp2_with (refine (pc _ (hS.below hHeld)).mono ?_; rintro r u5 ⟨⟨aX, cX, rfl, hX⟩, hb⟩)
      rw [hn.out]
      replace hX := hX.mono hHeld.size
      replace hl2 := hl2.below hb
      refine hK.out _ _ (below_next hHeld hb) (fun hHeld => ?_)
      clear hK K hb
      refine rd1 4 (fun K hK => ?_)
      rw [if_pos (by rfl)]
      refine wp_append_any Rc.vals_length _ _ rfl Tryd.underlying22 hI hz0 hsz hby hzs hX hHeld.size hn.out rfl (M := [X]) (m := 1) rfl (hl2.src Rc.vals_length Rc.vals_one Tryd.underlying22 1) rfl rfl (by omega) (by simp only [maxLen]; omega) ?_
      intro aZ cZ u6 hZ hkZ _
      refine hK.out _ _ (hHeld.trans (hkZ.below (fun k hk => (hX.in k hk).1) hHeld.size)) (fun hHeld => ?_)
      clear hK K hkZ hl2 hX
      try simp only [yy]
      refine tkQ 5 hHeld ?_
      try simp only [yy]
      refine wpAnyH_done (by kernel_rfl) ?_ _
      have hB3 := below_next hB hHeld
      have HM3 := HM _ _ _ (hZ.mono hB.size)
      go_wp2_with fail
      go_ret
      exact ⟨HM3, hB3⟩
  · refine wp_region_held_drew (S := fun v => Below W.heap.size W v) (by kernel_rfl) ((Below.refl _ _).drew) (fun hHeld => ?_)
    refine tkQ 0 hHeld ?_
    try simp only [yy]
    refine' tkH 2 (v := _) rfl (by kernel_rfl) (fun _ _ _ h => h) (yieldsIf_load_mid (by rfl) _ _ rfl w2.heap.size 0 rfl X.vals _ ?hS6 Tryd.underlying27 rfl sizeRc) hHeld ?rest6
    case hS6 => exact fun w h => (b1.below h).whole
    try simp only [yy]
    refine wpAnyH_ready (rs := [1, 3]) (by kernel_rfl) (by simp) ?_
    refine AllReadyH.cons rfl (fun K hK => ?_) (AllReadyH.cons rfl (fun K hK => ?_) (AllReadyH.nil))
    · go_simp
      go_wp2_with (refine (pc _ (hS.below hHeld)).mono ?_; rintro r u1 ⟨⟨aX, cX, rfl, hX⟩, hb⟩)
      rw [hn.out]
      replace hX := hX.mono hHeld.size
      refine hK.out _ _ (below_next hHeld hb) (fun hHeld => ?_)
      clear hK K hb
      refine rd1 3 (fun K hK => ?_)
      rw [if_pos (by rfl)]
      refine wp_Rc _ rfl X rfl ?_
      intro g2 u2 hl2 hb
      replace hX := hX.below hb
      refine hK.out _ _ (below_next hHeld hb) (fun hHeld => ?_)
      clear hK K hb
      try simp only [yy]
      refine rd1 4 (fun K hK => ?_)
      rw [if_pos (by rfl)]
      refine wp_append_any Rc.vals_length _ _ rfl Tryd.underlying22 hI hz0 hsz hby hzs hX hHeld.size hn.out rfl (M := [X]) (m := 1) rfl (hl2.src Rc.vals_length Rc.vals_one Tryd.underlying22 1) rfl rfl (by omega) (by simp only [maxLen]; omega) ?_
      intro aZ cZ u3 hZ hkZ _
      refine hK.out _ _ (hHeld.trans (hkZ.below (fun k hk => (hX.in k hk).1) hHeld.size)) (fun hHeld => ?_)
      clear hK K hkZ hl2 hX
      try simp only [yy]
      refine tkQ 5 hHeld ?_
      try simp only [yy]
      refine wpAnyH_done (by kernel_rfl) ?_ _
      have hB3 := below_next hB hHeld
      have HM3 := HM _ _ _ (hZ.mono hB.size)
      go_wp2_with fail
      go_ret
      exact ⟨HM3, hB3⟩
    · rw [if_pos (by rfl)]
      refine wp_Rc _ rfl X rfl ?_
      intro g2 u4 hl2 hb
      refine hK.out _ _ (below_next hHeld hb) (fun hHeld => ?_)
      clear hK K hb
      try simp only [yy]
      refine rd1 1 (fun K hK => ?_)
      go_simp
      go_wp2_with (refine (pc _ (hS.below hHeld)).mono ?_; rintro r u5 ⟨⟨aX, cX, rfl, hX⟩, hb⟩)
      rw [hn.out]
      replace hX := hX.mono hHeld.size
      replace hl2 := hl2.below hb
      refine hK.out _ _ (below_next hHeld hb) (fun hHeld => ?_)
      clear hK K hb
      refine rd1 4 (fun K hK => ?_)
      rw [if_pos (by rfl)]
      refine wp_append_any Rc.vals_length _ _ rfl Tryd.underlying22 hI hz0 hsz hby hzs hX hHeld.size hn.out rfl (M := [X]) (m := 1) rfl (hl2.src Rc.vals_length Rc.vals_one Tryd.underlying22 1) rfl rfl (by omega) (by simp only [maxLen]; omega) ?_
      intro aZ cZ u6 hZ hkZ _
      refine hK.out _ _ (hHeld.trans (hkZ.below (fun k hk => (hX.in k hk).1) hHeld.size)) (fun hHeld => ?_)
      clear hK K hkZ hl2 hX
      try simp only [yy]
      refine tkQ 5 hHeld ?_
      try simp only [yy]
      refine wpAnyH_done (by kernel_rfl) ?_ _
      have hB3 := below_next hB hHeld
      have HM3 := HM _ _ _ (hZ.mono hB.size)
      go_wp2_with fail
      go_ret
      exact ⟨HM3, hB3⟩

set_option maxHeartbeats 4000000 in
theorem radd_ok (t : Nat) (c : ByteArray) (k : Int) (L : List Rc) (la : Option Addr) (lc : Nat) (lm : (L.length + 1) * 40 ≤ 140737488355328) (w : World) (hS : Li Rc.vals 0 la L w) :
    Calls Tryd.prog 9 #[.slice la L.length lc, .int .u32 (t : Int), .string c, .int .i64 k] w fun e w' => MadeRc (addA L t c k) w.heap.size e w' ∧ Below w.heap.size w w' := by
  obtain ⟨iI, zI, hI, hz0, hsz, hby, hzs⟩ := infoRc
  have HM : ∀ a c' w', Lg Rc.vals 4 27 w.heap.size a c' (L ++ [⟨L.length + 1, tickA L t, c, k⟩]) w' → MadeRc (addA L t c k) w.heap.size (.returned (.slice a (L.length + 1) c')) w' := fun a c' w' h => ⟨a, c', by simp [addA], h⟩
  rw [tickA_max] at HM
  have hlast : (L = [] ∧ lastT L = 0) ∨ (L ≠ [] ∧ ∃ b o, la = some ⟨b, o, none⟩ ∧ ∀ W, Li Rc.vals 0 la L W → W.cell? ⟨b, o + (L.length - 1) * 4 + 1, none⟩ = some (.int .u32 (lastT L : Int))) := by
    by_cases h : L = []
    · exact .inl ⟨h, by rw [h]; rfl⟩
    · obtain ⟨r, hr, ht⟩ := lastT_get h
      obtain ⟨b, o, hb, _, hbl, hg⟩ := hS.at Rc.vals_length _ r hr
      refine .inr ⟨h, b, o, hb, fun W hW => ?_⟩
      subst hb
      rw [ht]
      exact (hW.rng Rc.vals_length _ r hr) 1 _ rfl
  have hpos : L ≠ [] → 1 ≤ L.length := fun h => List.length_pos_iff.2 h
  have h00 : L = [] → L.length = 0 := fun h => by rw [h]; rfl
  obtain ⟨n, hn⟩ : ∃ n, Hid (L.length = n) := ⟨_, rfl⟩
  rw [hn.out] at lm HM hlast hpos h00 ⊢
  generalize lastT L = tk at hlast HM
  have Ht : ∃ m, (t < tk ∧ m = tk) ∨ (¬ t < tk ∧ m = t) := by
    by_cases h : t < tk
    · exact ⟨tk, .inl ⟨h, rfl⟩⟩
    · exact ⟨t, .inr ⟨h, rfl⟩⟩
  obtain ⟨m, hm⟩ := Ht
  rw [show max t tk = m by omega] at HM
  obtain ⟨X, hX⟩ : ∃ X : Rc, X = ⟨n + 1, m, c, k⟩ := ⟨_, rfl⟩
  rw [← hX] at HM
  have hXv : Hid (X.arr = #[.int .u64 ((n : Int) + 1), .int .u32 (m : Int), .string c, .int .i64 k]) := by rw [hX]; exact rfl
  clear hX
  have b0 := blk_new w #[] 27
  have hB0 : Below w.heap.size w (w.alloc (.cells #[] 27)) := below_box w _
  have hS1 := hS.below hB0
  have hG0 : Lg Rc.vals 4 27 w.heap.size (some ⟨w.heap.size, 0, none⟩) 0 [] (w.alloc (.cells #[] 27)) := Lg.of (Ow.empty b0) (Nat.le_refl _)
  have hx := hS1.src (P := Tryd.prog) Rc.vals_length Rc.vals_one Tryd.underlying22 lc
  rw [hn.out] at hx
  clear b0
  go_enter Tryd.func9, Tryd.ntmps9
  go_upto_region 2 with (first | refine box_Rc0 rfl rfl ?_ | (refine append_any Rc.vals_length rfl _ _ rfl Tryd.underlying22 hI hz0 hsz hby hzs hG0 hB0.size (n := 0) rfl rfl (M := L) (m := n) hn.out (by rw [hn.out]; exact hx) rfl (by omega) (by simp [maxLen]; omega) ?_; intro a1 c1 W1 hG1 hK1 _))
  try simp only [Act.put, List.setIfInBounds_toArray, List.set_cons_zero, List.set_cons_succ]
  have hB1 := hB0.trans (hK1.below (fun k hk => (hG0.in k hk).1) hB0.size)
  rw [List.nil_append] at hG1
  replace hS1 := hS.below hB1
  try simp only [Nat.zero_add]
  clear hx hG0 hB0 hK1
  rcases hlast with ⟨h1, h2⟩ | ⟨h1, b, o, rfl, hc⟩
  · have h0 := h00 h1
    have d0 : ¬ (0 : Int) < (n : Int) := by omega
    have hm0 : m = t := by omega
    subst hm0
    clear h1 h0 h00 hpos hm hS
    go_wp2_with (first | (refine box_Rc rfl _ rfl X (by rw [hXv.out]; rfl) ?_; intro W2 hl2 hb2; have hG2 := hG1.below hb2; have hB2 := below_next hB1 hb2) | (refine append_any Rc.vals_length rfl _ _ rfl Tryd.underlying22 hI hz0 hsz hby hzs hG2 hB2.size hn.out rfl (M := [X]) (m := 1) rfl (hl2.src Rc.vals_length Rc.vals_one Tryd.underlying22 1) rfl (by omega) (by simp only [maxLen]; omega) ?_; intro a3 c3 W3 hG3 hK3 _))
    have hB3 := hB2.trans (hK3.below (fun k hk => (hG2.in k hk).1) hB2.size)
    have HM3 := HM _ _ _ hG3
    go_ret
    exact ⟨HM3, hB3⟩
  · have hp := hpos h1
    have c1' := hc _ hS1
    have d0 : (0 : Int) < (n : Int) := by omega
    have d1 : (0 : Int) ≤ (n : Int) - 1 := by omega
    have d2 : (n : Int) - 1 < (n : Int) := by omega
    have d3 : ((n : Int) - 1).toNat = n - 1 := by omega
    have d4 : (n : Int) - 1 = ((n - 1 : Nat) : Int) := by omega
    clear hc h1 h00 hpos hS
    rcases hm with ⟨hm, rfl⟩ | ⟨hm, rfl⟩
    · have d5 : (t : Int) < (m : Int) := by omega
      clear hm
      go_wp2_with (first | (refine box_Rc rfl _ rfl X (by rw [hXv.out]; rfl) ?_; intro W2 hl2 hb2; have hG2 := hG1.below hb2; have hB2 := below_next hB1 hb2) | (refine append_any Rc.vals_length rfl _ _ rfl Tryd.underlying22 hI hz0 hsz hby hzs hG2 hB2.size hn.out rfl (M := [X]) (m := 1) rfl (hl2.src Rc.vals_length Rc.vals_one Tryd.underlying22 1) rfl (by omega) (by simp only [maxLen]; omega) ?_; intro a3 c3 W3 hG3 hK3 _))
      have hB3 := hB2.trans (hK3.below (fun k hk => (hG2.in k hk).1) hB2.size)
      have HM3 := HM _ _ _ hG3
      go_ret
      exact ⟨HM3, hB3⟩
    · have d5 : ¬ (m : Int) < (tk : Int) := by omega
      clear hm
      go_wp2_with (first | (refine box_Rc rfl _ rfl X (by rw [hXv.out]; rfl) ?_; intro W2 hl2 hb2; have hG2 := hG1.below hb2; have hB2 := below_next hB1 hb2) | (refine append_any Rc.vals_length rfl _ _ rfl Tryd.underlying22 hI hz0 hsz hby hzs hG2 hB2.size hn.out rfl (M := [X]) (m := 1) rfl (hl2.src Rc.vals_length Rc.vals_one Tryd.underlying22 1) rfl (by omega) (by simp only [maxLen]; omega) ?_; intro a3 c3 W3 hG3 hK3 _))
      have hB3 := hB2.trans (hK3.below (fun k hk => (hG2.in k hk).1) hB2.size)
      have HM3 := HM _ _ _ hG3
      go_ret
      exact ⟨HM3, hB3⟩

end Go.Proofs.YtehmcncclpimjaaDoor
