/-
  Incarnations do not fall, clocks neither, and nobody is heard in the future, whatever is heard, in whatever order: the law BeatRises returns true for every input.
  No condition beyond the form's own.
-/
import Derived.Test.YteodacgolpfodaaRows
import Derived.Test.YteodacgolpfodaaBtS
import Derived.WalkKit
import Derived.ProofKit
import Derived.OpenShut
import Derived.ShutString
import Derived.SizedLaws
import Derived.ChangeOld
import Derived.Below
namespace Go.Proofs.Yteodacgolpfodaa.beatRises
open Go.Sort Go.ChangeShapes Go.WideShapes Go.ChangeAt Go.RowKit
open Go.ChangeMaps (open_string shut_string)
set_option linter.unusedVariables false
set_option maxRecDepth 10000

theorem own : ownKnob Try.prog.godebug = none := by kernel_rfl
theorem length_bytes (s : ByteArray) : s.data.toList.length = s.size := by rw [Array.length_toList]; rfl

def Cut (w V : World) (B C0 D : Bt) (O : Bool) (p5 bb o : Nat) (xi : Int) (xn : Nat) (pv ov : Value) (wx : World) : Prop :=
  ∃ p, pv = .pointer (some ⟨p, 0, none⟩) ∧ ov = .bool O ∧ Blk p D.arr 25 wx ∧ (Blk w.heap.size B.arr 25 wx ∧ Blk p5 C0.arr 25 wx ∧ Hx bb o xi xn wx) ∧ Below V.heap.size V wx

set_option maxHeartbeats 16000000 in
theorem walk (la : Option Addr) (L : List (Int × Nat)) (lc : Nat) (lm : L.length ≤ maxLen) (w : World) (hS : Li hp 0 la L w) : Calls Try.prog 5 #[.slice la L.length lc] w fun e w' => e = .returned (.bool true) ∧ Below w.heap.size w w' := by
  have lm : L.length ≤ 9223372036854775807 := lm
  obtain ⟨n, hn⟩ : ∃ n, L.length = n := ⟨_, rfl⟩
  rw [hn] at lm ⊢
  have HN : Hid (L.length = n) := hn
  clear hn
  have b0 := blk_new w Bt.zero.arr 25
  have hB : Below w.heap.size w (w.alloc (.cells Bt.zero.arr 25)) := below_box w _
  go_enter Try.func5, Try.ntmps5
  go_wp2_with (first | refine build_zero builtBt rfl rfl ?_ | refine alloc_zero zeroBt rfl rfl ?_ | refine store_new rfl 25 _ _ rfl (cells := Bt.zero.arr) rfl rfl Bt.zero.size rfl Bt.zero.arr_one ?_)
  go_loopw [4] (fun iv wr => ∃ (j : Nat) (B : Bt), j ≤ n ∧ j ≤ 300 ∧ iv = .int .i64 j ∧ Hid (Inv B) ∧ Blk w.heap.size B.arr 25 wr ∧ Below w.heap.size w wr) (fun iv _ => 300 - (intOf iv).toNat)
  case atStart => exact ⟨0, Bt.zero, by omega, by omega, rfl, inv_zero, b0, hB⟩
  case round =>
    clear b0 hB
    obtain ⟨j, B, hj, hj3, rfl, HI, b0, hB⟩ := hrel
    by_cases hjn : j < n
    · by_cases hj300 : j < 300
      · obtain ⟨⟨xi, xn⟩, hx⟩ : ∃ x, L[j]? = some x := ⟨_, List.getElem?_eq_getElem (by rw [HN.out]; exact hjn)⟩
        obtain ⟨bb, o, rfl, _, hbl, hr⟩ := hS.at hp_length j _ hx
        have h1 := Hx.range hbl hr
        have j0 : (j : Int) < (n : Int) := by omega
        have j1 : (0 : Int) ≤ (j : Int) := by omega
        have j2 : (j : Int) < 300 := by omega
        have pT := tick_ok B
        obtain ⟨C0, hC⟩ : ∃ C, tickB B = C := ⟨_, rfl⟩
        have HS0 : Hid (Stp B C0) := by rw [← hC]; exact stp_tick HI.out
        rw [hC] at pT
        clear hC hx hr
        go_wp2_with (refine load_blk rfl 25 _ rfl b0 rfl Try.underlying25 rfl B.size ?_)
        refine (pT _).mono ?_
        rintro r w1 ⟨rfl, hb⟩
        replace b0 := b0.below hb
        have H05 : Hid (w.heap.size < w1.heap.size) := b0.lt
        replace b0 := b0.alloc (.cells C0.arr 25)
        have c0 := blk_new w1 C0.arr 25
        replace hB := hB.trans (hb.mono hB.size)
        replace hB : Below w.heap.size w (w1.alloc (.cells C0.arr 25)) := hB.alloc hB.size _
        clear hb pT
        go_upto_region 6 with (first | refine alloc_zero zeroBt rfl rfl ?_ | refine store_new rfl 25 _ _ rfl (cells := C0.arr) rfl rfl C0.size rfl C0.arr_one ?_)
        simp only [Act.put, List.setIfInBounds_toArray, List.set_cons_zero, List.set_cons_succ]
        generalize w1.heap.size = p5 at c0 H05 ⊢
        generalize w1.alloc (.cells C0.arr 25) = V at b0 c0 hB ⊢
        have h2 : Hx bb (o + j * 2) xi xn V := h1.of_block hB.size (hB.block bb h1.1)
        have q0 := h2.2.1
        have q1 := h2.2.2
        by_cases hx0 : 0 ≤ xi
        · have pH := hear_ok B xi xn
          obtain ⟨D, hD⟩ : ∃ D, hearB B xi xn = D := ⟨_, rfl⟩
          obtain ⟨O, hO⟩ : ∃ O, hearsB B xi xn = O := ⟨_, rfl⟩
          have HS : Hid (Stp B D) := by rw [← hD]; exact stp_hear HI.out xi xn
          have HO : Hid (O = false → D = B) := fun h => by rw [← hD]; exact hearB_no (hO.trans h)
          rw [hD, hO] at pH
          clear hD hO
          go_upto_region 7 with fail
          have hC0 : Below V.heap.size V V.drew := (Below.refl _ _).drew
          have hl0 := b0.lt
          have hl1 := c0.lt
          have hl2 := h2.1
          go_cut [6, 7] from 28 to 42 (fun pv ov wx => Cut w V B C0 D O p5 bb (o + j * 2) xi xn pv ov wx)
          case first =>
            refine wp_region_held_drew (S := fun w' => Blk w.heap.size B.arr 25 w' ∧ Blk p5 C0.arr 25 w' ∧ Hx bb (o + j * 2) xi xn w') (by kernel_rfl) ⟨b0, c0, h2⟩ (fun hHeld => ?_)
            refine' wpAnyH_take (i := 0) (v := _) rfl (by kernel_rfl) (by kernel_rfl) (by kernel_rfl) (fun _ _ _ h => h) (yieldsIf_load_mid (by rfl) _ _ rfl w.heap.size 0 rfl B.vals _ ?hS1 Try.underlying25 rfl sizeBt) hHeld ?rest1
            case hS1 => exact fun w h => h.1.whole
            try simp only [List.getElem_toArray]
            try simp only [List.getElem_cons_succ]
            try simp only [List.getElem_cons_zero]
            try simp only [Act.put]
            try simp only [List.setIfInBounds_toArray]
            try simp only [List.set_cons_succ]
            try simp only [List.set_cons_zero]
            refine wpAnyH_take (i := 1) (v := ?v2) rfl (by kernel_rfl) (by kernel_rfl) (by kernel_rfl) (fun _ _ _ h => h) (Or.inl ⟨by rfl, ?hy2⟩) hHeld ?rest2
            case hy2 => (intro w hSw; clear hSw; go_simp; try with_reducible rfl)
            try simp only [List.getElem_toArray]
            try simp only [List.getElem_cons_succ]
            try simp only [List.getElem_cons_zero]
            try simp only [Act.put]
            try simp only [List.setIfInBounds_toArray]
            try simp only [List.set_cons_succ]
            try simp only [List.set_cons_zero]
            refine wpAnyH_take (i := 2) (v := ?v3) rfl (by kernel_rfl) (by kernel_rfl) (by kernel_rfl) (fun _ _ _ h => h) (Or.inl ⟨by rfl, ?hy3⟩) hHeld ?rest3
            case hy3 => (intro w hSw; clear hSw; go_simp; try with_reducible rfl)
            try simp only [List.getElem_toArray]
            try simp only [List.getElem_cons_succ]
            try simp only [List.getElem_cons_zero]
            try simp only [Act.put]
            try simp only [List.setIfInBounds_toArray]
            try simp only [List.set_cons_succ]
            try simp only [List.set_cons_zero]
            refine wpAnyH_take (i := 3) (v := ?v4) rfl (by kernel_rfl) (by kernel_rfl) (by kernel_rfl) (fun _ _ _ h => h) (Or.inl ⟨by rfl, ?hy4⟩) hHeld ?rest4
            case hy4 => (intro w hSw; clear hSw; go_simp; try with_reducible rfl)
            try simp only [List.getElem_toArray]
            try simp only [List.getElem_cons_succ]
            try simp only [List.getElem_cons_zero]
            try simp only [Act.put]
            try simp only [List.setIfInBounds_toArray]
            try simp only [List.set_cons_succ]
            try simp only [List.set_cons_zero]
            refine wpAnyH_take (i := 4) (v := ?v5) rfl (by kernel_rfl) (by kernel_rfl) (by kernel_rfl) (fun _ _ _ h => h) (Or.inl ⟨by rfl, ?hy5⟩) hHeld ?rest5
            case hy5 => (intro w hSw; clear hSw; go_simp; try with_reducible rfl)
            try simp only [List.getElem_toArray]
            try simp only [List.getElem_cons_succ]
            try simp only [List.getElem_cons_zero]
            try simp only [Act.put]
            try simp only [List.setIfInBounds_toArray]
            try simp only [List.set_cons_succ]
            try simp only [List.set_cons_zero]
            refine wpAnyH_take (i := 5) (v := ?v6) rfl (by kernel_rfl) (by kernel_rfl) (by kernel_rfl) (fun _ _ _ h => h) (Or.inl ⟨by rfl, ?hy6⟩) hHeld ?rest6
            case hy6 => (intro w hSw; have hc := hSw.2.2.2.1; clear hSw; go_simp; try with_reducible rfl)
            try simp only [List.getElem_toArray]
            try simp only [List.getElem_cons_succ]
            try simp only [List.getElem_cons_zero]
            try simp only [Act.put]
            try simp only [List.setIfInBounds_toArray]
            try simp only [List.set_cons_succ]
            try simp only [List.set_cons_zero]
            refine wpAnyH_take (i := 6) (v := ?v7) rfl (by kernel_rfl) (by kernel_rfl) (by kernel_rfl) (fun _ _ _ h => h) (Or.inl ⟨by rfl, ?hy7⟩) hHeld ?rest7
            case hy7 => (intro w hSw; clear hSw; go_simp; try with_reducible rfl)
            try simp only [List.getElem_toArray]
            try simp only [List.getElem_cons_succ]
            try simp only [List.getElem_cons_zero]
            try simp only [Act.put]
            try simp only [List.setIfInBounds_toArray]
            try simp only [List.set_cons_succ]
            try simp only [List.set_cons_zero]
            refine wpAnyH_take (i := 7) (v := ?v8) rfl (by kernel_rfl) (by kernel_rfl) (by kernel_rfl) (fun _ _ _ h => h) (Or.inl ⟨by rfl, ?hy8⟩) hHeld ?rest8
            case hy8 => (intro w hSw; clear hSw; go_simp; try with_reducible rfl)
            try simp only [List.getElem_toArray]
            try simp only [List.getElem_cons_succ]
            try simp only [List.getElem_cons_zero]
            try simp only [Act.put]
            try simp only [List.setIfInBounds_toArray]
            try simp only [List.set_cons_succ]
            try simp only [List.set_cons_zero]
            refine wpAnyH_take (i := 8) (v := ?v9) rfl (by kernel_rfl) (by kernel_rfl) (by kernel_rfl) (fun _ _ _ h => h) (Or.inl ⟨by rfl, ?hy9⟩) hHeld ?rest9
            case hy9 => (intro w hSw; clear hSw; go_simp; try with_reducible rfl)
            try simp only [List.getElem_toArray]
            try simp only [List.getElem_cons_succ]
            try simp only [List.getElem_cons_zero]
            try simp only [Act.put]
            try simp only [List.setIfInBounds_toArray]
            try simp only [List.set_cons_succ]
            try simp only [List.set_cons_zero]
            refine wpAnyH_take (i := 9) (v := ?v10) rfl (by kernel_rfl) (by kernel_rfl) (by kernel_rfl) (fun _ _ _ h => h) (Or.inl ⟨by rfl, ?hy10⟩) hHeld ?rest10
            case hy10 => (intro w hSw; clear hSw; go_simp; try with_reducible rfl)
            try simp only [List.getElem_toArray]
            try simp only [List.getElem_cons_succ]
            try simp only [List.getElem_cons_zero]
            try simp only [Act.put]
            try simp only [List.setIfInBounds_toArray]
            try simp only [List.set_cons_succ]
            try simp only [List.set_cons_zero]
            refine wpAnyH_take (i := 10) (v := ?v11) rfl (by kernel_rfl) (by kernel_rfl) (by kernel_rfl) (fun _ _ _ h => h) (Or.inl ⟨by rfl, ?hy11⟩) hHeld ?rest11
            case hy11 => (intro w hSw; have hc := hSw.2.2.2.2; clear hSw; go_simp; try with_reducible rfl)
            try simp only [List.getElem_toArray]
            try simp only [List.getElem_cons_succ]
            try simp only [List.getElem_cons_zero]
            try simp only [Act.put]
            try simp only [List.setIfInBounds_toArray]
            try simp only [List.set_cons_succ]
            try simp only [List.set_cons_zero]
            refine wpAnyH_ready (rs := [11, 15]) (by kernel_rfl) (by simp) ?_
            refine AllReadyH.cons rfl (fun K hK => ?_) (AllReadyH.cons rfl (fun K hK => ?_) (AllReadyH.nil))
            · go_simp
              go_wp2_with (refine (pH _).mono ?_; rintro r u1 ⟨rfl, hb⟩)
              have hC1 := hC0.trans (hb.mono hC0.size)
              refine hK.out _ _ ⟨hHeld.1.below hb, hHeld.2.1.below hb, hHeld.2.2.below hb⟩ (fun hHeld => ?_)
              clear hK K hb hC0
              refine wpAnyH_take (i := 12) (v := ?v12) rfl (by kernel_rfl) (by kernel_rfl) (by kernel_rfl) (fun _ _ _ h => h) (Or.inl ⟨by rfl, ?hy12⟩) hHeld ?rest12
              case hy12 => (intro w hSw; clear hSw; go_simp; try with_reducible rfl)
              try simp only [List.getElem_toArray]
              try simp only [List.getElem_cons_succ]
              try simp only [List.getElem_cons_zero]
              try simp only [Act.put]
              try simp only [List.setIfInBounds_toArray]
              try simp only [List.set_cons_succ]
              try simp only [List.set_cons_zero]
              refine wpAnyH_take (i := 13) (v := ?v13) rfl (by kernel_rfl) (by kernel_rfl) (by kernel_rfl) (fun _ _ _ h => h) (Or.inl ⟨by rfl, ?hy13⟩) hHeld ?rest13
              case hy13 => (intro w hSw; clear hSw; go_simp; try with_reducible rfl)
              try simp only [List.getElem_toArray]
              try simp only [List.getElem_cons_succ]
              try simp only [List.getElem_cons_zero]
              try simp only [Act.put]
              try simp only [List.setIfInBounds_toArray]
              try simp only [List.set_cons_succ]
              try simp only [List.set_cons_zero]
              refine wpAnyH_take (i := 14) (v := ?v14) rfl (by kernel_rfl) (by kernel_rfl) (by kernel_rfl) (fun _ _ _ h => h) (Or.inl ⟨by rfl, ?hy14⟩) hHeld ?rest14
              case hy14 => (intro w hSw; clear hSw; go_simp; try with_reducible rfl)
              try simp only [List.getElem_toArray]
              try simp only [List.getElem_cons_succ]
              try simp only [List.getElem_cons_zero]
              try simp only [Act.put]
              try simp only [List.setIfInBounds_toArray]
              try simp only [List.set_cons_succ]
              try simp only [List.set_cons_zero]
              refine wpAnyH_ready (rs := [15]) (by kernel_rfl) (by simp) ?_
              refine AllReadyH.cons rfl (fun K hK => ?_) (AllReadyH.nil)
              rw [if_pos (by rfl)]
              refine wp_alloc_any zeroBt rfl ?_
              intro xp u2 x2 hb xl xt
              have xg := Nat.le_trans hC1.size xl
              have hC2 := hC1.trans (hb.mono hC1.size)
              refine hK.out _ _ ⟨hHeld.1.below hb, hHeld.2.1.below hb, hHeld.2.2.below hb⟩ (fun hHeld => ?_)
              clear hK K hb hC1
              try simp only [List.getElem_toArray]
              try simp only [List.getElem_cons_succ]
              try simp only [List.getElem_cons_zero]
              try simp only [Act.put]
              try simp only [List.setIfInBounds_toArray]
              try simp only [List.set_cons_succ]
              try simp only [List.set_cons_zero]
              refine wpAnyH_ready (rs := [16]) (by kernel_rfl) (by simp) ?_
              refine AllReadyH.cons rfl (fun K hK => ?_) (AllReadyH.nil)
              rw [if_pos (by rfl)]
              refine wp_store_all 25 _ _ rfl (cells := D.arr) x2 rfl rfl D.size rfl D.arr_one ?_
              intro u3 hn hk
              have hC3 := hC2.trans (hk.below (by simp; omega) hC2.size)
              have x3 := hn
              refine hK.out _ _ ⟨hHeld.1.kp hk (by simp; omega), hHeld.2.1.kp hk (by simp; omega), hHeld.2.2.kp hk (by simp; omega)⟩ (fun hHeld => ?_)
              clear hK K hk hn hC2 x2
              try simp only [List.getElem_toArray]
              try simp only [List.getElem_cons_succ]
              try simp only [List.getElem_cons_zero]
              try simp only [Act.put]
              try simp only [List.setIfInBounds_toArray]
              try simp only [List.set_cons_succ]
              try simp only [List.set_cons_zero]
              refine wpAnyH_take (i := 17) (v := ?v15) rfl (by kernel_rfl) (by kernel_rfl) (by kernel_rfl) (fun _ _ _ h => h) (Or.inl ⟨by rfl, ?hy15⟩) hHeld ?rest15
              case hy15 => (intro w hSw; clear hSw; go_simp; try with_reducible rfl)
              try simp only [List.getElem_toArray]
              try simp only [List.getElem_cons_succ]
              try simp only [List.getElem_cons_zero]
              try simp only [Act.put]
              try simp only [List.setIfInBounds_toArray]
              try simp only [List.set_cons_succ]
              try simp only [List.set_cons_zero]
              refine wpAnyH_done (by kernel_rfl) ?_ _
              go_wp2_with fail
              go_meet
              exact ⟨xp, rfl, rfl, x3, hHeld, hC3⟩
            · rw [if_pos (by rfl)]
              refine wp_alloc_any zeroBt rfl ?_
              intro xp u4 x1 hb xl xt
              have xg := Nat.le_trans hC0.size xl
              have hC1 := hC0.trans (hb.mono hC0.size)
              refine hK.out _ _ ⟨hHeld.1.below hb, hHeld.2.1.below hb, hHeld.2.2.below hb⟩ (fun hHeld => ?_)
              clear hK K hb hC0
              try simp only [List.getElem_toArray]
              try simp only [List.getElem_cons_succ]
              try simp only [List.getElem_cons_zero]
              try simp only [Act.put]
              try simp only [List.setIfInBounds_toArray]
              try simp only [List.set_cons_succ]
              try simp only [List.set_cons_zero]
              refine wpAnyH_ready (rs := [11]) (by kernel_rfl) (by simp) ?_
              refine AllReadyH.cons rfl (fun K hK => ?_) (AllReadyH.nil)
              go_simp
              go_wp2_with (refine (pH _).mono ?_; rintro r u5 ⟨rfl, hb⟩)
              have hC2 := hC1.trans (hb.mono hC1.size)
              have x2 := x1.below hb
              refine hK.out _ _ ⟨hHeld.1.below hb, hHeld.2.1.below hb, hHeld.2.2.below hb⟩ (fun hHeld => ?_)
              clear hK K hb hC1 x1
              refine wpAnyH_take (i := 12) (v := ?v16) rfl (by kernel_rfl) (by kernel_rfl) (by kernel_rfl) (fun _ _ _ h => h) (Or.inl ⟨by rfl, ?hy16⟩) hHeld ?rest16
              case hy16 => (intro w hSw; clear hSw; go_simp; try with_reducible rfl)
              try simp only [List.getElem_toArray]
              try simp only [List.getElem_cons_succ]
              try simp only [List.getElem_cons_zero]
              try simp only [Act.put]
              try simp only [List.setIfInBounds_toArray]
              try simp only [List.set_cons_succ]
              try simp only [List.set_cons_zero]
              refine wpAnyH_take (i := 13) (v := ?v17) rfl (by kernel_rfl) (by kernel_rfl) (by kernel_rfl) (fun _ _ _ h => h) (Or.inl ⟨by rfl, ?hy17⟩) hHeld ?rest17
              case hy17 => (intro w hSw; clear hSw; go_simp; try with_reducible rfl)
              try simp only [List.getElem_toArray]
              try simp only [List.getElem_cons_succ]
              try simp only [List.getElem_cons_zero]
              try simp only [Act.put]
              try simp only [List.setIfInBounds_toArray]
              try simp only [List.set_cons_succ]
              try simp only [List.set_cons_zero]
              refine wpAnyH_take (i := 14) (v := ?v18) rfl (by kernel_rfl) (by kernel_rfl) (by kernel_rfl) (fun _ _ _ h => h) (Or.inl ⟨by rfl, ?hy18⟩) hHeld ?rest18
              case hy18 => (intro w hSw; clear hSw; go_simp; try with_reducible rfl)
              try simp only [List.getElem_toArray]
              try simp only [List.getElem_cons_succ]
              try simp only [List.getElem_cons_zero]
              try simp only [Act.put]
              try simp only [List.setIfInBounds_toArray]
              try simp only [List.set_cons_succ]
              try simp only [List.set_cons_zero]
              refine wpAnyH_ready (rs := [16]) (by kernel_rfl) (by simp) ?_
              refine AllReadyH.cons rfl (fun K hK => ?_) (AllReadyH.nil)
              rw [if_pos (by rfl)]
              refine wp_store_all 25 _ _ rfl (cells := D.arr) x2 rfl rfl D.size rfl D.arr_one ?_
              intro u6 hn hk
              have hC3 := hC2.trans (hk.below (by simp; omega) hC2.size)
              have x3 := hn
              refine hK.out _ _ ⟨hHeld.1.kp hk (by simp; omega), hHeld.2.1.kp hk (by simp; omega), hHeld.2.2.kp hk (by simp; omega)⟩ (fun hHeld => ?_)
              clear hK K hk hn hC2 x2
              try simp only [List.getElem_toArray]
              try simp only [List.getElem_cons_succ]
              try simp only [List.getElem_cons_zero]
              try simp only [Act.put]
              try simp only [List.setIfInBounds_toArray]
              try simp only [List.set_cons_succ]
              try simp only [List.set_cons_zero]
              refine wpAnyH_take (i := 17) (v := ?v19) rfl (by kernel_rfl) (by kernel_rfl) (by kernel_rfl) (fun _ _ _ h => h) (Or.inl ⟨by rfl, ?hy19⟩) hHeld ?rest19
              case hy19 => (intro w hSw; clear hSw; go_simp; try with_reducible rfl)
              try simp only [List.getElem_toArray]
              try simp only [List.getElem_cons_succ]
              try simp only [List.getElem_cons_zero]
              try simp only [Act.put]
              try simp only [List.setIfInBounds_toArray]
              try simp only [List.set_cons_succ]
              try simp only [List.set_cons_zero]
              refine wpAnyH_done (by kernel_rfl) ?_ _
              go_wp2_with fail
              go_meet
              exact ⟨xp, rfl, rfl, x3, hHeld, hC3⟩
          case rest =>
            obtain ⟨p6, rfl, rfl, d0, ⟨b0', c0', h2'⟩, hC⟩ := hcut
            clear b0 c0 h2 hC0 q0 q1 pH
            rename World => U
            replace hB := hB.trans (hC.mono hB.size)
            clear hC
            have hne : p5 ≠ w.heap.size := by have := H05.out; omega
            have hpc : putAt C0.arr 0 D.arr.toList = D.arr := putAt_all _ _ rfl
            cases O with
            | true =>
              clear HO
              go_upto_region 11 with (first | refine load_blk rfl 25 _ rfl d0 rfl Try.underlying25 rfl D.size ?_ | (refine store_part rfl 25 _ _ rfl (off := 0) (cells := D.arr) c0' rfl rfl D.size (by simp [Bt.arr_size]) D.arr_one ?_; intro U1 c0 k1; rw [hpc] at c0; have b0 := b0'.kp1 k1 (fun h => hne h.symm); have hB1 : Below w.heap.size w U1 := hB.trans (k1.below1 (by have := H05.out; omega) hB.size)))
              simp only [Act.put, List.setIfInBounds_toArray, List.set_cons_zero, List.set_cons_succ]
              clear b0' c0' h2' d0 hB k1 hpc
              rename Below w.heap.size w U1 => hB
              have s0 := b0.cell 0 _ B.get_now
              have s1 := c0.cell 0 _ D.get_now
              have hnow : ¬ (D.now : Int) < (B.now : Int) := by have := HS.out.now; omega
              go_wp2_with fail
              clear s0 s1 hnow
              go_loopw [8] (fun kv wk => ∃ k : Nat, k ≤ 8 ∧ kv = .int .i64 k ∧ Blk w.heap.size B.arr 25 wk ∧ Blk p5 D.arr 25 wk ∧ Below w.heap.size w wk) (fun kv _ => 8 - (intOf kv).toNat)
              case atStart => exact ⟨0, by omega, rfl, b0, c0, hB⟩
              case round =>
                clear b0 c0 hB
                obtain ⟨k, hk, rfl, b0, c0, hB⟩ := hrel
                rename World => ws
                by_cases hk8 : k < 8
                · have k0 : (k : Int) < 8 := by omega
                  have k1 : (0 : Int) ≤ (k : Int) := by omega
                  have r0 : ∀ d os, (grow (redrawn ws d) os).cell? ⟨w.heap.size, 9 + k, none⟩ = some (.int .u32 (B.inc k : Int)) := cell_regrown (b0.cell (9 + k) _ (B.get_inc k hk8))
                  have r1 : ∀ d os, (grow (redrawn ws d) os).cell? ⟨w.heap.size, 1 + k, none⟩ = some (.int .u32 (B.hd k : Int)) := cell_regrown (b0.cell (1 + k) _ (B.get_hd k hk8))
                  have r2 : ∀ d os, (grow (redrawn ws d) os).cell? ⟨p5, 9 + k, none⟩ = some (.int .u32 (D.inc k : Int)) := cell_regrown (c0.cell (9 + k) _ (D.get_inc k hk8))
                  have r3 : ∀ d os, (grow (redrawn ws d) os).cell? ⟨p5, 1 + k, none⟩ = some (.int .u32 (D.hd k : Int)) := cell_regrown (c0.cell (1 + k) _ (D.get_hd k hk8))
                  have r4 : ∀ d os, (grow (redrawn ws d) os).cell? ⟨p5, 0, none⟩ = some (.int .u32 (D.now : Int)) := cell_regrown (c0.cell 0 _ D.get_now)
                  have e0 := HS.out.inc k hk8
                  have e1 := HS.out.hd k hk8
                  have e2 := HS.out.inv.top k hk8
                  have e3 := HS.out.inv.nil k hk8
                  obtain ⟨u0, hu0⟩ : ∃ u, B.inc k = u := ⟨_, rfl⟩
                  obtain ⟨u1, hu1⟩ : ∃ u, B.hd k = u := ⟨_, rfl⟩
                  obtain ⟨u2, hu2⟩ : ∃ u, D.inc k = u := ⟨_, rfl⟩
                  obtain ⟨u3, hu3⟩ : ∃ u, D.hd k = u := ⟨_, rfl⟩
                  rw [hu0] at r0 e0
                  rw [hu1] at r1 e1
                  rw [hu2] at r2 e0 e3
                  rw [hu3] at r3 e1 e2 e3
                  obtain ⟨z, f3, f4⟩ : ∃ z : Bool, ((u3 : Int) == 0) = z ∧ ((u2 : Int) == 0) = z := by
                    by_cases e : u3 = 0
                    · have e' := e3.1 e
                      subst e e'
                      exact ⟨true, rfl, rfl⟩
                    · have e' : u2 ≠ 0 := fun h => e (e3.2 h)
                      exact ⟨false, by rw [beq_eq_false_iff_ne]; omega, by rw [beq_eq_false_iff_ne]; omega⟩
                  have f0 : decide (u2 < u0) = false := by simp; omega
                  have f1 : decide (u3 < u1) = false := by simp; omega
                  have f2 : decide (D.now < u3) = false := by simp; omega
                  have g0 : decide ((u2 : Int) < (u0 : Int)) = false := by simp; omega
                  have g1 : decide ((u3 : Int) < (u1 : Int)) = false := by simp; omega
                  have g2 : decide ((D.now : Int) < (u3 : Int)) = false := by simp; omega
                  clear e0 e1 e2 e3 hu0 hu1 hu2 hu3
                  go_wp2_with fail
                  refine wp_region_quiet_below (by kernel_rfl) (by kernel_rfl) ?_
                  repeat (go_big_quiet_step (fail))
                  refine wpQuiet_nil ?_
                  intro _ hw'
                  obtain ⟨⟨dq, osq⟩, hw''⟩ := hw'
                  have hb := below_regrown ws dq osq
                  subst hw''
                  generalize grow (redrawn ws dq) osq = wt at hb ⊢
                  replace b0 := b0.below hb
                  replace c0 := c0.below hb
                  replace hB := hB.trans (hb.mono hB.size)
                  clear hb r0 r1 r2 r3 r4 f0 f1 f2 f3 f4 g0 g1 g2
                  go_wp2_with fail
                  exact ⟨⟨k + 1, by omega, by go_num, b0, c0, hB⟩, by simp [intOf]; omega⟩
                · obtain rfl : k = 8 := by omega
                  have hpa : putAt B.arr 0 D.arr.toList = D.arr := putAt_all _ _ rfl
                  go_wp2_with (first | refine load_blk rfl 25 _ rfl c0 rfl Try.underlying25 rfl D.size ?_ | (refine store_part rfl 25 _ _ rfl (off := 0) (cells := D.arr) b0 rfl rfl D.size (by simp [Bt.arr_size]) D.arr_one ?_; intro w9 b9 k9; rw [hpa] at b9; have hB9 : Below w.heap.size w w9 := hB.trans (k9.below1 (by omega) hB.size)))
                  exact ⟨⟨j + 1, D, by omega, by omega, by go_num, HS.out.inv, b9, hB9⟩, by simp [intOf]; omega⟩
            | false =>
              have kne : ∀ u, (binOp .neq 25 (.agg D.arr) (.agg B.arr)).run Try.prog u = .ok (.bool false) u := by rw [HO.out rfl]; exact neqBt B
              clear HO
              go_upto_region 11 with (first | refine load_want rfl 25 _ rfl d0 rfl Try.underlying25 rfl D.size ?_ | refine load_want rfl 25 _ rfl b0' rfl Try.underlying25 rfl B.size ?_ | refine load_blk rfl 25 _ rfl d0 rfl Try.underlying25 rfl D.size ?_ | (refine store_part rfl 25 _ _ rfl (off := 0) (cells := D.arr) c0' rfl rfl D.size (by simp [Bt.arr_size]) D.arr_one ?_; intro U1 c0 k1; rw [hpc] at c0; have b0 := b0'.kp1 k1 (fun h => hne h.symm); have hB1 : Below w.heap.size w U1 := hB.trans (k1.below1 (by have := H05.out; omega) hB.size)))
              clear kne
              simp only [Act.put, List.setIfInBounds_toArray, List.set_cons_zero, List.set_cons_succ]
              clear b0' c0' h2' d0 hB k1 hpc
              rename Below w.heap.size w U1 => hB
              have s0 := b0.cell 0 _ B.get_now
              have s1 := c0.cell 0 _ D.get_now
              have hnow : ¬ (D.now : Int) < (B.now : Int) := by have := HS.out.now; omega
              go_wp2_with fail
              clear s0 s1 hnow
              go_loopw [8] (fun kv wk => ∃ k : Nat, k ≤ 8 ∧ kv = .int .i64 k ∧ Blk w.heap.size B.arr 25 wk ∧ Blk p5 D.arr 25 wk ∧ Below w.heap.size w wk) (fun kv _ => 8 - (intOf kv).toNat)
              case atStart => exact ⟨0, by omega, rfl, b0, c0, hB⟩
              case round =>
                clear b0 c0 hB
                obtain ⟨k, hk, rfl, b0, c0, hB⟩ := hrel
                rename World => ws
                by_cases hk8 : k < 8
                · have k0 : (k : Int) < 8 := by omega
                  have k1 : (0 : Int) ≤ (k : Int) := by omega
                  have r0 : ∀ d os, (grow (redrawn ws d) os).cell? ⟨w.heap.size, 9 + k, none⟩ = some (.int .u32 (B.inc k : Int)) := cell_regrown (b0.cell (9 + k) _ (B.get_inc k hk8))
                  have r1 : ∀ d os, (grow (redrawn ws d) os).cell? ⟨w.heap.size, 1 + k, none⟩ = some (.int .u32 (B.hd k : Int)) := cell_regrown (b0.cell (1 + k) _ (B.get_hd k hk8))
                  have r2 : ∀ d os, (grow (redrawn ws d) os).cell? ⟨p5, 9 + k, none⟩ = some (.int .u32 (D.inc k : Int)) := cell_regrown (c0.cell (9 + k) _ (D.get_inc k hk8))
                  have r3 : ∀ d os, (grow (redrawn ws d) os).cell? ⟨p5, 1 + k, none⟩ = some (.int .u32 (D.hd k : Int)) := cell_regrown (c0.cell (1 + k) _ (D.get_hd k hk8))
                  have r4 : ∀ d os, (grow (redrawn ws d) os).cell? ⟨p5, 0, none⟩ = some (.int .u32 (D.now : Int)) := cell_regrown (c0.cell 0 _ D.get_now)
                  have e0 := HS.out.inc k hk8
                  have e1 := HS.out.hd k hk8
                  have e2 := HS.out.inv.top k hk8
                  have e3 := HS.out.inv.nil k hk8
                  obtain ⟨u0, hu0⟩ : ∃ u, B.inc k = u := ⟨_, rfl⟩
                  obtain ⟨u1, hu1⟩ : ∃ u, B.hd k = u := ⟨_, rfl⟩
                  obtain ⟨u2, hu2⟩ : ∃ u, D.inc k = u := ⟨_, rfl⟩
                  obtain ⟨u3, hu3⟩ : ∃ u, D.hd k = u := ⟨_, rfl⟩
                  rw [hu0] at r0 e0
                  rw [hu1] at r1 e1
                  rw [hu2] at r2 e0 e3
                  rw [hu3] at r3 e1 e2 e3
                  obtain ⟨z, f3, f4⟩ : ∃ z : Bool, ((u3 : Int) == 0) = z ∧ ((u2 : Int) == 0) = z := by
                    by_cases e : u3 = 0
                    · have e' := e3.1 e
                      subst e e'
                      exact ⟨true, rfl, rfl⟩
                    · have e' : u2 ≠ 0 := fun h => e (e3.2 h)
                      exact ⟨false, by rw [beq_eq_false_iff_ne]; omega, by rw [beq_eq_false_iff_ne]; omega⟩
                  have f0 : decide (u2 < u0) = false := by simp; omega
                  have f1 : decide (u3 < u1) = false := by simp; omega
                  have f2 : decide (D.now < u3) = false := by simp; omega
                  have g0 : decide ((u2 : Int) < (u0 : Int)) = false := by simp; omega
                  have g1 : decide ((u3 : Int) < (u1 : Int)) = false := by simp; omega
                  have g2 : decide ((D.now : Int) < (u3 : Int)) = false := by simp; omega
                  clear e0 e1 e2 e3 hu0 hu1 hu2 hu3
                  go_wp2_with fail
                  refine wp_region_quiet_below (by kernel_rfl) (by kernel_rfl) ?_
                  repeat (go_big_quiet_step (fail))
                  refine wpQuiet_nil ?_
                  intro _ hw'
                  obtain ⟨⟨dq, osq⟩, hw''⟩ := hw'
                  have hb := below_regrown ws dq osq
                  subst hw''
                  generalize grow (redrawn ws dq) osq = wt at hb ⊢
                  replace b0 := b0.below hb
                  replace c0 := c0.below hb
                  replace hB := hB.trans (hb.mono hB.size)
                  clear hb r0 r1 r2 r3 r4 f0 f1 f2 f3 f4 g0 g1 g2
                  go_wp2_with fail
                  exact ⟨⟨k + 1, by omega, by go_num, b0, c0, hB⟩, by simp [intOf]; omega⟩
                · obtain rfl : k = 8 := by omega
                  have hpa : putAt B.arr 0 D.arr.toList = D.arr := putAt_all _ _ rfl
                  go_wp2_with (first | refine load_blk rfl 25 _ rfl c0 rfl Try.underlying25 rfl D.size ?_ | (refine store_part rfl 25 _ _ rfl (off := 0) (cells := D.arr) b0 rfl rfl D.size (by simp [Bt.arr_size]) D.arr_one ?_; intro w9 b9 k9; rw [hpa] at b9; have hB9 : Below w.heap.size w w9 := hB.trans (k9.below1 (by omega) hB.size)))
                  exact ⟨⟨j + 1, D, by omega, by omega, by go_num, HS.out.inv, b9, hB9⟩, by simp [intOf]; omega⟩
        · have hx0' : decide (0 ≤ xi) = false := by simpa using hx0
          have HS := HS0
          go_upto_region 11 with fail
          clear q0 q1 h2
          have s0 := b0.cell 0 _ B.get_now
          have s1 := c0.cell 0 _ C0.get_now
          have hnow : ¬ (C0.now : Int) < (B.now : Int) := by have := HS.out.now; omega
          go_wp2_with fail
          clear s0 s1 hnow
          go_loopw [8] (fun kv wk => ∃ k : Nat, k ≤ 8 ∧ kv = .int .i64 k ∧ Blk w.heap.size B.arr 25 wk ∧ Blk p5 C0.arr 25 wk ∧ Below w.heap.size w wk) (fun kv _ => 8 - (intOf kv).toNat)
          case atStart => exact ⟨0, by omega, rfl, b0, c0, hB⟩
          case round =>
            clear b0 c0 hB
            obtain ⟨k, hk, rfl, b0, c0, hB⟩ := hrel
            rename World => ws
            by_cases hk8 : k < 8
            · have k0 : (k : Int) < 8 := by omega
              have k1 : (0 : Int) ≤ (k : Int) := by omega
              have r0 : ∀ d os, (grow (redrawn ws d) os).cell? ⟨w.heap.size, 9 + k, none⟩ = some (.int .u32 (B.inc k : Int)) := cell_regrown (b0.cell (9 + k) _ (B.get_inc k hk8))
              have r1 : ∀ d os, (grow (redrawn ws d) os).cell? ⟨w.heap.size, 1 + k, none⟩ = some (.int .u32 (B.hd k : Int)) := cell_regrown (b0.cell (1 + k) _ (B.get_hd k hk8))
              have r2 : ∀ d os, (grow (redrawn ws d) os).cell? ⟨p5, 9 + k, none⟩ = some (.int .u32 (C0.inc k : Int)) := cell_regrown (c0.cell (9 + k) _ (C0.get_inc k hk8))
              have r3 : ∀ d os, (grow (redrawn ws d) os).cell? ⟨p5, 1 + k, none⟩ = some (.int .u32 (C0.hd k : Int)) := cell_regrown (c0.cell (1 + k) _ (C0.get_hd k hk8))
              have r4 : ∀ d os, (grow (redrawn ws d) os).cell? ⟨p5, 0, none⟩ = some (.int .u32 (C0.now : Int)) := cell_regrown (c0.cell 0 _ C0.get_now)
              have e0 := HS.out.inc k hk8
              have e1 := HS.out.hd k hk8
              have e2 := HS.out.inv.top k hk8
              have e3 := HS.out.inv.nil k hk8
              obtain ⟨u0, hu0⟩ : ∃ u, B.inc k = u := ⟨_, rfl⟩
              obtain ⟨u1, hu1⟩ : ∃ u, B.hd k = u := ⟨_, rfl⟩
              obtain ⟨u2, hu2⟩ : ∃ u, C0.inc k = u := ⟨_, rfl⟩
              obtain ⟨u3, hu3⟩ : ∃ u, C0.hd k = u := ⟨_, rfl⟩
              rw [hu0] at r0 e0
              rw [hu1] at r1 e1
              rw [hu2] at r2 e0 e3
              rw [hu3] at r3 e1 e2 e3
              obtain ⟨z, f3, f4⟩ : ∃ z : Bool, ((u3 : Int) == 0) = z ∧ ((u2 : Int) == 0) = z := by
                by_cases e : u3 = 0
                · have e' := e3.1 e
                  subst e e'
                  exact ⟨true, rfl, rfl⟩
                · have e' : u2 ≠ 0 := fun h => e (e3.2 h)
                  exact ⟨false, by rw [beq_eq_false_iff_ne]; omega, by rw [beq_eq_false_iff_ne]; omega⟩
              have f0 : decide (u2 < u0) = false := by simp; omega
              have f1 : decide (u3 < u1) = false := by simp; omega
              have f2 : decide (C0.now < u3) = false := by simp; omega
              have g0 : decide ((u2 : Int) < (u0 : Int)) = false := by simp; omega
              have g1 : decide ((u3 : Int) < (u1 : Int)) = false := by simp; omega
              have g2 : decide ((C0.now : Int) < (u3 : Int)) = false := by simp; omega
              clear e0 e1 e2 e3 hu0 hu1 hu2 hu3
              go_wp2_with fail
              refine wp_region_quiet_below (by kernel_rfl) (by kernel_rfl) ?_
              repeat (go_big_quiet_step (fail))
              refine wpQuiet_nil ?_
              intro _ hw'
              obtain ⟨⟨dq, osq⟩, hw''⟩ := hw'
              have hb := below_regrown ws dq osq
              subst hw''
              generalize grow (redrawn ws dq) osq = wt at hb ⊢
              replace b0 := b0.below hb
              replace c0 := c0.below hb
              replace hB := hB.trans (hb.mono hB.size)
              clear hb r0 r1 r2 r3 r4 f0 f1 f2 f3 f4 g0 g1 g2
              go_wp2_with fail
              exact ⟨⟨k + 1, by omega, by go_num, b0, c0, hB⟩, by simp [intOf]; omega⟩
            · obtain rfl : k = 8 := by omega
              have hpa : putAt B.arr 0 C0.arr.toList = C0.arr := putAt_all _ _ rfl
              go_wp2_with (first | refine load_blk rfl 25 _ rfl c0 rfl Try.underlying25 rfl C0.size ?_ | (refine store_part rfl 25 _ _ rfl (off := 0) (cells := C0.arr) b0 rfl rfl C0.size (by simp [Bt.arr_size]) C0.arr_one ?_; intro w9 b9 k9; rw [hpa] at b9; have hB9 : Below w.heap.size w w9 := hB.trans (k9.below1 (by omega) hB.size)))
              exact ⟨⟨j + 1, C0, by omega, by omega, by go_num, HS.out.inv, b9, hB9⟩, by simp [intOf]; omega⟩
      · have j0 : (j : Int) < (n : Int) := by omega
        have j2 : ¬ (j : Int) < 300 := by omega
        go_wp2_with fail
        refine (fixed_ok _).mono ?_
        rintro r w2 ⟨rfl, hb⟩
        replace hB := hB.trans (hb.mono hB.size)
        clear hb
        go_wp2_with fail
        go_ret
        exact ⟨rfl, hB⟩
    · have j0 : ¬ (j : Int) < (n : Int) := by omega
      go_wp2_with fail
      refine (fixed_ok _).mono ?_
      rintro r w2 ⟨rfl, hb⟩
      replace hB := hB.trans (hb.mono hB.size)
      clear hb
      go_wp2_with fail
      go_ret
      exact ⟨rfl, hB⟩

set_option maxRecDepth 100000 in
theorem lifted (os : Os) (started : os.Started) (H : Type) (enc : TypeId × Value → H) :
    ReturnsInHanded {} Try.checked os 5 .any (Rows.beatRisesSpec.pre6 enc Try.prog Try.f5 Rows.beatRisesRow.domain false) (Rows.beatRisesSpec.post enc Try.prog Try.f5 false true false false) := by
  refine returnsInHanded_of_change_sized (C := Try.checked) own started (by kernel_rfl) Try.func5
    (ChangeSpec.witness6 (enc := enc) (C := Try.checked) false ⟨#[], #[.slice none 0 0], []⟩ 8 (by kernel_rfl) (by kernel_rfl) (by kernel_rfl) (by kernel_rfl)) ?_
  intro W base args ds gs before hval0 hW hcnd hsz0 _
  have hval : ∀ (j : Nat) t v, Try.f5.params[j]? = some t → args[j]? = some v → Value.okWide Try.prog W .any base t v := hval0
  have hsz : (DataW.weightsEach Try.prog (Try.f5.params.toList ++ Rows.beatRisesSpec.plain.varTypes Try.prog) (ds ++ gs)).all (· ≤ reachBytes) = true := hsz0
  have hW' := hW
  obtain ⟨p, q, hA0, hV, rfl, hfz, hnd⟩ := hW
  have hA : DataW.TrodAll enc Try.prog W 0 (fun _ => true) true Try.f5.params.toList args.toList ds p := hA0
  rw [Try.params5] at hA hval hsz

  obtain ⟨v0, vs0, d0, ds0, p0, q0, hargs, rfl, rfl, h0, r0⟩ := trodAll_cons hA
  obtain ⟨rfl, rfl, rfl⟩ := trodAll_nil r0
  obtain rfl : args = #[v0] := by cases args; simp_all
  obtain ⟨rfl, rfl⟩ := trodVars_none hV
  obtain ⟨la0, L0, lc0, rfl, lm0, hS0⟩ := open_hds (okWide_slice Try.underlying35 (hval 0 35 v0 rfl rfl)) h0
  have hA2 := hA0
  clear hA0 hval0 hsz0
  simp only [List.append_nil] at hW'
  refine (walk la0 L0 lc0 lm0 W hS0).mono fun e W' ⟨he, bel⟩ => ?_
  subst he
  exact ⟨_, rfl, _, _, _, [], _, [], hW', trodAll_mk1 (shut_bool Try.underlying4 _), (stays_all laidOut bel (by kernel_rfl) hA2), rfl, bel.frame _, fun h => by cases h⟩

theorem over : Rows.beatRisesRow.holds Try.pinned (OpenSpec.ofChange Rows.beatRisesSpec) :=
  OpenClaim.holds_of_wide 5 Try.f5 rfl rfl rfl rfl rfl rfl rfl ⟨rfl, rfl, rfl, rfl, rfl⟩ rfl rfl rfl rfl rfl (by kernel_rfl) Try.func5 (by kernel_rfl)
    (of_decide_eq_true (by kernel_rfl)) (by unfold Func.isWrapper; first | (rw [if_pos (by decide +kernel)]; kernel_rfl) | (rw [if_neg (by decide +kernel)]; exact ⟨rfl, rfl⟩))
    (fun os started H enc _ => lifted os started H enc)

end Go.Proofs.Yteodacgolpfodaa.beatRises
namespace Go.Proofs.Yteodacgolpfodaa

theorem beatRises_holds : Rows.BeatRisesSaid := beatRises.over
#print axioms beatRises_holds

end Go.Proofs.Yteodacgolpfodaa
