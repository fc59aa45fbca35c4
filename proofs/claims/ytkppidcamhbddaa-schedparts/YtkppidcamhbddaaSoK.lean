/-
  slices.pdqsortOrdered and slices.Sort of uint64: the row is sorted.
  The bounds lie within the row.
-/
import Derived.Test.YtkppidcamhbddaaSoD
import Derived.Test.YtkppidcamhbddaaSoE
import Derived.Test.YtkppidcamhbddaaSoF
import Derived.Test.YtkppidcamhbddaaSoG
import Derived.Test.YtkppidcamhbddaaSoH
import Derived.Test.YtkppidcamhbddaaSoJ
namespace Go.Proofs.Ytkppidcamhbddaa
set_option maxRecDepth 10000
open Go.RowKit
set_option linter.unusedVariables false

theorem below_perm {a b : Nat} {d d' : Array Int} (h : Sort.Below Sort.ltInt a b d) (hb : b ≤ d.size) (hp : Sort.PermIn a b d d') : Sort.Below Sort.ltInt a b d' := Sort.Below.perm h hb hp
set_option maxHeartbeats 64000000 in
set_option maxRecDepth 100000 in
theorem pdq_ok : ∀ (N g o cap a b lim : Nat) (T : TypeId) (R : List Value × List Value) (d : Array Int) (w : World), b - a < N → Sx g o T R d w → a ≤ b → b ≤ d.size → d.size < 1152921504606846976 → Sort.Below Sort.ltInt a b d → lim ≤ 1000000 →
    Calls Try.prog 24 #[.slice (some ⟨g, o, none⟩) d.size cap, .int .i64 a, .int .i64 b, .int .i64 lim] w fun e w' =>
      e = .returned (.tuple #[]) ∧ ∃ d', Sort.PermIn a b d d' ∧ Sort.SortedIn Sort.ltInt a b d' ∧ Sx g o T R d' w' ∧ Kp [g] w w' := by
  intro N
  induction N with
  | zero => intro g o cap a b lim T R d w h; omega
  | succ N ih0 =>
  intro g o cap a b lim T R d w hN hH hab hb hsz hBe hlim
  have ih := fun g o cap a b lim T R d w (h1 : b - a < N) (h2 : Sx g o T R d w) h3 h4 h5 h6 h7 => ih0 g o cap a b lim T R d w h1 h2 h3 h4 h5 h6 h7
  clear ih0
  obtain ⟨n, hn⟩ : ∃ n, d.size = n := ⟨_, rfl⟩
  rw [hn] at hb hsz ⊢
  have HN : Hid (d.size = n) := hn
  clear hn
  have HIH : Hid _ := ih
  clear ih
  go_enter Try.func24, Try.ntmps24
  go_wp2
  go_loopw [1, 2, 3, 8, 9] (fun va vb vl v8 v9 wr => ∃ (x y lm : Nat) (wb wp : Bool) (dk : Array Int), va = .int .i64 x ∧ vb = .int .i64 y ∧ vl = .int .i64 lm ∧ v8 = .bool wb ∧ v9 = .bool wp ∧ a ≤ x ∧ x ≤ y ∧ y ≤ b ∧ lm ≤ 1000000 ∧ dk.size = n ∧ (Sx g o T R dk wr ∧ Kp [g] w wr) ∧ Hid (Sort.Below Sort.ltInt x y dk) ∧
      Hid (∀ d', Sort.PermIn x y dk d' → Sort.SortedIn Sort.ltInt x y d' → Sort.PermIn a b d d' ∧ Sort.SortedIn Sort.ltInt a b d'))
    (fun va vb _ _ _ _ => (intOf vb).toNat - (intOf va).toNat)
  case atStart => exact ⟨a, b, lim, true, true, d, rfl, rfl, rfl, rfl, rfl, Nat.le_refl _, hab, Nat.le_refl _, hlim, HN.out, ⟨hH, Kp.refl _ _⟩, hBe, fun d' h1 h2 => ⟨h1, h2⟩⟩
  case round =>
    clear hH hBe
    obtain ⟨x, y, lm, wb, wp, dk, rfl, rfl, rfl, rfl, rfl, hax, hxy, hyb, hlm, hsk, ⟨hw, hk⟩, HB, HI⟩ := hrel
    have ih := HIH.out
    by_cases h12 : y - x ≤ 12
    · have h12z : (y : Int) - (x : Int) ≤ 12 := by omega
      have hC := ins_ok g o cap x y T R dk wr hw hxy (by omega) (by omega)
      rw [hsk] at hC
      obtain ⟨q1, q2⟩ := Sort.insertionSort_holds Sort.swo_ltInt dk x y hxy (by omega)
      obtain ⟨q3, q4⟩ := HI.out _ q1 q2
      have HQ : Hid (Sort.PermIn a b d (Sort.insertionSort Sort.ltInt dk x y) ∧ Sort.SortedIn Sort.ltInt a b (Sort.insertionSort Sort.ltInt dk x y)) := ⟨q3, q4⟩
      clear q1 q2 q3 q4 HB HI ih hw
      have HK : Hid (Kp [g] w wr) := hk
      clear hk
      go_wp2_with fail
      refine hC.mono ?_
      rintro e w1 ⟨rfl, h1, hk1⟩
      clear hC
      go_wp2
      (try simp only [Exit.inBlock, Exit.then]); refine bodyPost_ret (results_none rfl _ _ _) rfl ?_
      exact ⟨rfl, _, HQ.out.1, HQ.out.2, h1, HK.out.trans hk1⟩
    · have h12z : ¬ ((y : Int) - (x : Int) ≤ 12) := by omega
      by_cases hl0 : lm = 0
      · subst hl0
        have hC := heap_ok g o cap x y T R dk wr hw (by omega) (by omega) (by omega)
        rw [hsk] at hC
        obtain ⟨q1, q2⟩ := Sort.heapSort_holds Sort.swo_ltInt dk x y hxy (by omega)
        obtain ⟨q3, q4⟩ := HI.out _ q1 q2
        have HQ : Hid (Sort.PermIn a b d (Sort.heapSort Sort.ltInt dk x y) ∧ Sort.SortedIn Sort.ltInt a b (Sort.heapSort Sort.ltInt dk x y)) := ⟨q3, q4⟩
        clear q1 q2 q3 q4 HB HI ih hw
        have HK : Hid (Kp [g] w wr) := hk
        clear hk
        go_wp2_with fail
        refine hC.mono ?_
        rintro e w1 ⟨rfl, h1, hk1⟩
        clear hC
        go_wp2
        (try simp only [Exit.inBlock, Exit.then]); refine bodyPost_ret (results_none rfl _ _ _) rfl ?_
        exact ⟨rfl, _, HQ.out.1, HQ.out.2, h1, HK.out.trans hk1⟩
      · have hl0b : ((lm : Int) == 0) = false := beq_eq_false_iff_ne.2 (by omega)
        go_upto_if 35 with fail
        go_cut [3] from 36 to 41 (fun v wx => ∃ (lm2 : Nat) (d1 : Array Int), v = .int .i64 lm2 ∧ lm2 ≤ 1000000 ∧ Sort.PermIn x y dk d1 ∧ Sx g o T R d1 wx ∧ Kp [g] w wx)
        case first =>
          cases wb with
          | false =>
            have hC := brk_ok g o cap x y T R dk wr hw (by omega) (by omega) (by omega)
            rw [hsk] at hC
            clear HB HI ih hw
            have HK : Hid (Kp [g] w wr) := hk
            clear hk
            go_wp2_with fail
            refine hC.mono ?_
            rintro e w1 ⟨rfl, d1, hP1, h1, hk1⟩
            clear hC
            go_wp2
            go_meet
            exact ⟨lm - 1, d1, by go_num, by omega, hP1, h1, HK.out.trans hk1⟩
          | true =>
            go_wp2
            go_meet
            exact ⟨lm, dk, rfl, hlm, Sort.permIn_refl _ _ _, hw, hk⟩
        case rest =>
          obtain ⟨lm2, d1, rfl, hlm2, hP1, h1, hk1⟩ := ‹∃ (lm2 : Nat) (d1 : Array Int), _›
          clear hw hk hl0b hl0 hlm
          rename World => W1
          have hs1 : d1.size = n := hP1.1.trans hsk
          have HP1 : Hid (Sort.PermIn x y dk d1) := hP1
          have hC := piv_ok g o cap x y T R d1 W1 h1 (by omega) (by omega) (by omega)
          rw [hs1] at hC
          clear hP1
          go_wp2_with fail
          refine hC.mono ?_
          rintro e W2 ⟨p, h, rfl, hp1, hp2, hh2, hBW⟩
          have h1 := h1.kp (S := []) (Kp.of_below hBW) (by simp)
          have hk1 := hk1.trans (Kp.of_below (S := [g]) hBW)
          clear hC hBW
          go_upto_if 50 with fail
          generalize hB2 : ((h : Int) == 2) = B2
          have HB2 : Hid (((h : Int) == 2) = B2) := hB2
          clear hB2
          go_cut [11, 12] from 51 to 60 (fun vp vh wx => ∃ (p2 h2 : Nat) (d2 : Array Int), vp = .int .i64 p2 ∧ vh = .int .i64 h2 ∧ x ≤ p2 ∧ p2 < y ∧ Sort.PermIn x y d1 d2 ∧ Sx g o T R d2 wx ∧ Kp [g] w wx)
          case first =>
            cases B2 with
            | true =>
              have hC := rev_ok g o cap x y T R d1 W2 h1 (by omega) (by omega) (by omega)
              rw [hs1] at hC
              have HK : Hid (Kp [g] w W2) := hk1
              clear h1 hk1 ih HB HI HP1
              go_wp2_with fail
              refine hC.mono ?_
              rintro e w1 ⟨rfl, d2, hP2, h2, hk2⟩
              clear hC
              go_wp2
              go_meet
              exact ⟨y - 1 - (p - x), 1, d2, by go_num, rfl, by omega, by omega, hP2, h2, HK.out.trans hk2⟩
            | false =>
              go_wp2
              go_meet
              exact ⟨p, h, d1, rfl, rfl, hp1, hp2, Sort.permIn_refl _ _ _, h1, hk1⟩
          case rest =>
            clear h1 hk1 HB2 hp1 hp2 hh2
            obtain ⟨p2, h2, d2, rfl, rfl, hp1, hp2, hP2, hS2, hk2⟩ := ‹∃ (p2 h2 : Nat) (d2 : Array Int), _›
            rename World => W5
            have hs2 : d2.size = n := hP2.1.trans hs1
            have HP2 : Hid (Sort.PermIn x y dk d2) := Sort.permIn_trans _ _ _ x y HP1.out hP2
            have HBb : Hid (Sort.Below Sort.ltInt x y d2) := below_perm HB.out (by omega) HP2.out
            clear hP2 HP1 HB
            go_upto_region 15 with fail
            go_cut [68] from 61 to 68 (fun v wx => ∃ B, v = .bool B ∧ wx = W5)
            case first =>
              clear ih HI HP2 HBb hS2 hk2
              cases wb with
              | false => go_wp2; go_meet; exact ⟨_, rfl, rfl⟩
              | true =>
                cases wp with
                | false => go_wp2; go_meet; exact ⟨_, rfl, rfl⟩
                | true => go_wp2; go_meet; exact ⟨_, rfl, rfl⟩
            case rest =>
              obtain ⟨B3, rfl, rfl⟩ := ‹∃ B, _›
              go_upto_if 68 with fail
              go_cut [72] from 69 to 72 (fun v wx => ∃ (d3 : Array Int), Sort.PermIn x y d2 d3 ∧ Sx g o T R d3 wx ∧ Kp [g] w wx)
              case first =>
                cases B3 with
                | false =>
                  go_wp2
                  go_meet
                  exact ⟨d2, Sort.permIn_refl _ _ _, hS2, hk2⟩
                | true =>
                  have hC := pins_ok g o cap x y T R d2 _ hS2 (by omega) (by omega) (by omega)
                  rw [hs2] at hC
                  obtain ⟨q1, q2⟩ := Sort.partialInsertionSort_holds Sort.swo_ltInt d2 x y (by omega) (by omega) HBb.out
                  have HK : Hid _ := hk2
                  have HQ : Hid (∀ d3, Sort.PermIn x y d2 d3 → Sort.SortedIn Sort.ltInt x y d3 → Sort.PermIn a b d d3 ∧ Sort.SortedIn Sort.ltInt a b d3) := fun d3 e1 e2 => HI.out d3 (Sort.permIn_trans _ _ _ x y HP2.out e1) e2
                  have HQ1 : Hid (Sort.PermIn x y d2 (Sort.partialInsertionSort Sort.ltInt d2 x y).1) := q1
                  cases hr : (Sort.partialInsertionSort Sort.ltInt d2 x y).2 with
                  | true =>
                    have q3 := HQ.out _ q1 (q2 hr)
                    have HQ3 : Hid _ := q3
                    rw [hr] at hC
                    clear q1 q2 q3 hr ih HI HP2 HBb hS2 hk2 HQ HQ1
                    go_wp2_with fail
                    refine hC.mono ?_
                    rintro e w1 ⟨rfl, h1, hk1⟩
                    clear hC
                    go_wp2
                    (try simp only [Exit.inBlock, Exit.then]); refine bodyPost_ret (results_none rfl _ _ _) rfl ?_
                    exact ⟨rfl, _, HQ3.out.1, HQ3.out.2, h1, HK.out.trans hk1⟩
                  | false =>
                    rw [hr] at hC
                    clear q1 q2 hr ih HI HP2 HBb hS2 hk2 HQ
                    go_wp2_with fail
                    refine hC.mono ?_
                    rintro e w1 ⟨rfl, h1, hk1⟩
                    clear hC
                    go_wp2
                    go_meet
                    exact ⟨_, HQ1.out, h1, HK.out.trans hk1⟩
              case rest =>
                obtain ⟨d3, hP3, h3, hk3⟩ := ‹∃ (d3 : Array Int), _›
                clear hS2 hk2
                rename World => W3
                have hs3 : d3.size = n := hP3.1.trans hs2
                have HP3 : Hid (Sort.PermIn x y dk d3) := Sort.permIn_trans _ _ _ x y HP2.out hP3
                have HB3 : Hid (Sort.Below Sort.ltInt x y d3) := below_perm HBb.out (by omega) hP3
                clear hP3 HP2 HBb
                obtain ⟨G, hG, hcw, hfw⟩ := h3.fam hs3
                have HG : Hid (∀ t, G t = d3[t]!) := hG
                have H3 : Hid (∀ q, Sx g o T R d3 (W3.drewN q) ∧ Kp [g] w (W3.drewN q)) := fun q => ⟨h3.draws q, hk3.trans (kp_drewN _ _ _)⟩
                clear hG h3 hk3
                by_cases hx0 : 0 < x
                · have hx0z : (0 : Int) < (x : Int) := by omega
                  go_upto_region 17 with fail
                  go_quiet (first | (go_at_call 32; refine Calls.quiet_of_same (less_ok _ _ _)))
                  have h3 := (H3.out nq).1
                  have hk3 := (H3.out nq).2
                  clear hcw hfw H3
                  generalize W3.drewN nq = W6 at h3 hk3 ⊢
                  clear nq
                  go_wp2_with fail
                  · have ht : Sort.ltInt (G (x - 1)) (G p2) = false := not_lt (by assumption)
                    have HT : Hid (Sort.ltInt d3[x - 1]! d3[p2]! = false) := by have h := ht; rw [HG.out, HG.out] at h; exact h
                    clear ht HG
                    have hpe := peq_ok g o cap x y p2 T R d3 W6 h3 hp1 hp2 (by omega) (by omega)
                    rw [hs3] at hpe
                    obtain ⟨mid, d4, hx4⟩ : ∃ mid d4, Sort.partitionEqual Sort.ltInt d3 x y p2 = (mid, d4) := ⟨_, _, rfl⟩
                    rw [hx4] at hpe
                    obtain ⟨hm1, hm2, hs4, hBm, hcl⟩ := Sort.round_eq Sort.swo_ltInt (Sort.partitionEqual_holds _) (by omega) hp1 hp2 (by omega) HB3.out HT.out hx4
                    rw [hs3] at hs4
                    have HI2 : Hid (∀ d', Sort.PermIn mid y d4 d' → Sort.SortedIn Sort.ltInt mid y d' → Sort.PermIn a b d d' ∧ Sort.SortedIn Sort.ltInt a b d') := fun d' p1 p2 => by
                      obtain ⟨q1, q2⟩ := hcl d' p1 p2
                      exact HI.out d' (Sort.permIn_trans _ _ _ x y HP3.out q1) q2
                    have HBm : Hid _ := hBm
                    have HK : Hid (Kp [g] w W6) := hk3
                    clear hx4 HB3 hcl h3 hBm ih hk3 HT
                    refine hpe.mono ?_
                    rintro e W4 ⟨rfl, h4, hk4⟩
                    clear hpe
                    go_wp2
                    go_roundw
                    case rel => exact ⟨mid, y, lm2, wb, wp, d4, rfl, rfl, rfl, rfl, rfl, by omega, by omega, by omega, hlm2, hs4, ⟨h4, HK.out.trans hk4⟩, HBm.out, HI2⟩
                    case measure => simp [intOf]; omega
                  · clear HG
                    have hpar := par_ok g o cap x y p2 T R d3 W6 h3 hp1 hp2 (by omega) (by omega)
                    rw [hs3] at hpar
                    obtain ⟨mid, ap, d4, hx4⟩ : ∃ mid ap d4, Sort.partition Sort.ltInt d3 x y p2 = (mid, ap, d4) := ⟨_, _, _, rfl⟩
                    rw [hx4] at hpar
                    obtain ⟨hm1, hm2, hs4, hBa, hBb, hcl1, hcl2⟩ := Sort.round_part Sort.swo_ltInt (Sort.partition_holds _) hp1 hp2 (by omega) HB3.out hx4
                    rw [hs3] at hs4
                    clear h3 hx4 HB3
                    go_wp2_with fail
                    refine hpar.mono ?_
                    rintro e W4 ⟨rfl, h4, hk4'⟩
                    have hk4 := hk3.trans hk4'
                    clear hpar hk4' hk3
                    by_cases hlt : mid - x < y - mid
                    · have hltz : (mid : Int) - (x : Int) < (y : Int) - (mid : Int) := by omega
                      go_wp2_with fail
                      have hIH := ih g o cap x mid lm2 T R d4 W4 (by omega) h4 (by omega) (by omega) (by rw [hs4]; exact hsz) hBa hlm2
                      rw [hs4] at hIH
                      refine hIH.mono ?_
                      rintro e w5 ⟨rfl, dL, hPL, hSL, h5, hk5⟩
                      have hsL : dL.size = n := hPL.1.trans hs4
                      obtain ⟨hBL, hRL⟩ := hcl1 dL hPL hSL
                      have HI2 : Hid (∀ d', Sort.PermIn (mid + 1) y dL d' → Sort.SortedIn Sort.ltInt (mid + 1) y d' → Sort.PermIn a b d d' ∧ Sort.SortedIn Sort.ltInt a b d') := fun d' p1 p2 => by
                        obtain ⟨q1, q2⟩ := hRL d' p1 p2
                        exact HI.out d' (Sort.permIn_trans _ _ _ x y HP3.out q1) q2
                      have hk6 := hk4.trans hk5
                      clear hIH hBa hBb hcl1 hcl2 hPL hSL hRL h4 hk4 hk5 hs4
                      go_wp2
                      go_roundw
                      case rel => exact ⟨(mid + 1), y, lm2, _, _, dL, by go_num, rfl, rfl, rfl, rfl, by omega, by omega, by omega, hlm2, hsL, ⟨h5, hk6⟩, hBL, HI2⟩
                      case measure => simp [intOf]; omega
                    · have hltz : ¬ ((mid : Int) - (x : Int) < (y : Int) - (mid : Int)) := by omega
                      go_wp2_with fail
                      have hIH := ih g o cap (mid + 1) y lm2 T R d4 W4 (by omega) h4 (by omega) (by omega) (by rw [hs4]; exact hsz) hBb hlm2
                      rw [hs4] at hIH
                      rw [show (((mid + 1 : Nat) : Int)) = (mid : Int) + 1 by omega] at hIH
                      refine hIH.mono ?_
                      rintro e w5 ⟨rfl, dL, hPL, hSL, h5, hk5⟩
                      have hsL : dL.size = n := hPL.1.trans hs4
                      obtain ⟨hBL, hRL⟩ := hcl2 dL hPL hSL
                      have HI2 : Hid (∀ d', Sort.PermIn x mid dL d' → Sort.SortedIn Sort.ltInt x mid d' → Sort.PermIn a b d d' ∧ Sort.SortedIn Sort.ltInt a b d') := fun d' p1 p2 => by
                        obtain ⟨q1, q2⟩ := hRL d' p1 p2
                        exact HI.out d' (Sort.permIn_trans _ _ _ x y HP3.out q1) q2
                      have hk6 := hk4.trans hk5
                      clear hIH hBa hBb hcl1 hcl2 hPL hSL hRL h4 hk4 hk5 hs4
                      go_wp2
                      go_roundw
                      case rel => exact ⟨x, mid, lm2, _, _, dL, rfl, rfl, rfl, rfl, rfl, by omega, by omega, by omega, hlm2, hsL, ⟨h5, hk6⟩, hBL, HI2⟩
                      case measure => simp [intOf]; omega
                · have hx0z : ¬ ((0 : Int) < (x : Int)) := by omega
                  go_upto_region 17 with fail
                  go_quiet (first | (go_at_call 32; refine Calls.quiet_of_same (less_ok _ _ _)))
                  have h3 := (H3.out nq).1
                  have hk3 := (H3.out nq).2
                  clear hcw hfw H3 HG
                  generalize W3.drewN nq = W6 at h3 hk3 ⊢
                  clear nq
                  go_wp2_with fail
                  have hpar := par_ok g o cap x y p2 T R d3 W6 h3 hp1 hp2 (by omega) (by omega)
                  rw [hs3] at hpar
                  obtain ⟨mid, ap, d4, hx4⟩ : ∃ mid ap d4, Sort.partition Sort.ltInt d3 x y p2 = (mid, ap, d4) := ⟨_, _, _, rfl⟩
                  rw [hx4] at hpar
                  obtain ⟨hm1, hm2, hs4, hBa, hBb, hcl1, hcl2⟩ := Sort.round_part Sort.swo_ltInt (Sort.partition_holds _) hp1 hp2 (by omega) HB3.out hx4
                  rw [hs3] at hs4
                  clear h3 hx4 HB3
                  go_wp2_with fail
                  refine hpar.mono ?_
                  rintro e W4 ⟨rfl, h4, hk4'⟩
                  have hk4 := hk3.trans hk4'
                  clear hpar hk4' hk3
                  by_cases hlt : mid - x < y - mid
                  · have hltz : (mid : Int) - (x : Int) < (y : Int) - (mid : Int) := by omega
                    go_wp2_with fail
                    have hIH := ih g o cap x mid lm2 T R d4 W4 (by omega) h4 (by omega) (by omega) (by rw [hs4]; exact hsz) hBa hlm2
                    rw [hs4] at hIH
                    refine hIH.mono ?_
                    rintro e w5 ⟨rfl, dL, hPL, hSL, h5, hk5⟩
                    have hsL : dL.size = n := hPL.1.trans hs4
                    obtain ⟨hBL, hRL⟩ := hcl1 dL hPL hSL
                    have HI2 : Hid (∀ d', Sort.PermIn (mid + 1) y dL d' → Sort.SortedIn Sort.ltInt (mid + 1) y d' → Sort.PermIn a b d d' ∧ Sort.SortedIn Sort.ltInt a b d') := fun d' p1 p2 => by
                      obtain ⟨q1, q2⟩ := hRL d' p1 p2
                      exact HI.out d' (Sort.permIn_trans _ _ _ x y HP3.out q1) q2
                    have hk6 := hk4.trans hk5
                    clear hIH hBa hBb hcl1 hcl2 hPL hSL hRL h4 hk4 hk5 hs4
                    go_wp2
                    go_roundw
                    case rel => exact ⟨(mid + 1), y, lm2, _, _, dL, by go_num, rfl, rfl, rfl, rfl, by omega, by omega, by omega, hlm2, hsL, ⟨h5, hk6⟩, hBL, HI2⟩
                    case measure => simp [intOf]; omega
                  · have hltz : ¬ ((mid : Int) - (x : Int) < (y : Int) - (mid : Int)) := by omega
                    go_wp2_with fail
                    have hIH := ih g o cap (mid + 1) y lm2 T R d4 W4 (by omega) h4 (by omega) (by omega) (by rw [hs4]; exact hsz) hBb hlm2
                    rw [hs4] at hIH
                    rw [show (((mid + 1 : Nat) : Int)) = (mid : Int) + 1 by omega] at hIH
                    refine hIH.mono ?_
                    rintro e w5 ⟨rfl, dL, hPL, hSL, h5, hk5⟩
                    have hsL : dL.size = n := hPL.1.trans hs4
                    obtain ⟨hBL, hRL⟩ := hcl2 dL hPL hSL
                    have HI2 : Hid (∀ d', Sort.PermIn x mid dL d' → Sort.SortedIn Sort.ltInt x mid d' → Sort.PermIn a b d d' ∧ Sort.SortedIn Sort.ltInt a b d') := fun d' p1 p2 => by
                      obtain ⟨q1, q2⟩ := hRL d' p1 p2
                      exact HI.out d' (Sort.permIn_trans _ _ _ x y HP3.out q1) q2
                    have hk6 := hk4.trans hk5
                    clear hIH hBa hBb hcl1 hcl2 hPL hSL hRL h4 hk4 hk5 hs4
                    go_wp2
                    go_roundw
                    case rel => exact ⟨x, mid, lm2, _, _, dL, rfl, rfl, rfl, rfl, rfl, by omega, by omega, by omega, hlm2, hsL, ⟨h5, hk6⟩, hBL, HI2⟩
                    case measure => simp [intOf]; omega

end Go.Proofs.Ytkppidcamhbddaa
