/-
  What may be delivered as agreed are just the places of members that stand ahead of one's position; so of two daemons with one configuration the one has delivered all that the other has, in one order, or the other way round: the law RoundOrder returns true for every input.
  No condition beyond the form's own.
-/
import Derived.Test.YtchkpgncelbhpaaRows
import Derived.Test.YtchkpgncelbhpaaRdN
import Derived.Test.YtchkpgncelbhpaaRdB
import Derived.Test.YtchkpgncelbhpaaRdC
import Derived.Test.YtchkpgncelbhpaaRdF
import Derived.Test.YtchkpgncelbhpaaRdT
import Derived.WalkKit
import Derived.ProofKit
import Derived.OpenShut
import Derived.ShutString
import Derived.SizedLaws
import Derived.ChangeOld
import Derived.Below
namespace Go.Proofs.Ytchkpgncelbhpaa.roundOrder
open Go.Sort Go.ChangeShapes Go.WideShapes Go.ChangeAt Go.RowKit
open Go.ChangeMaps (open_string shut_string)
set_option linter.unusedVariables false
set_option maxRecDepth 10000

theorem own : ownKnob Try.prog.godebug = none := by kernel_rfl
theorem length_bytes (s : ByteArray) : s.data.toList.length = s.size := by rw [Array.length_toList]; rfl

def Cut1 (w W : World) (c d m : Nat → Nat) (p : Pl) (mv pv : Value) (wx : World) : Prop :=
  ∃ mp pp, mv = .pointer (some ⟨mp, 0, none⟩) ∧ pv = .pointer (some ⟨pp, 0, none⟩) ∧ Blk w.heap.size (mbc c) 24 wx ∧ Blk (w.heap.size + 1) (mbc d) 24 wx ∧ Blk mp (mbc m) 25 wx ∧ Blk pp p.arr 27 wx ∧ Below W.heap.size W wx
def Cut2 (w W : World) (c d m : Nat → Nat) (p A B : Pl) (mp pp : Nat) (xv yv : Value) (wx : World) : Prop :=
  ∃ xp yp, xv = .pointer (some ⟨xp, 0, none⟩) ∧ yv = .pointer (some ⟨yp, 0, none⟩) ∧ Blk w.heap.size (mbc c) 24 wx ∧ Blk (w.heap.size + 1) (mbc d) 24 wx ∧ Blk mp (mbc m) 25 wx ∧ Blk pp p.arr 27 wx ∧ Blk xp A.arr 27 wx ∧ Blk yp B.arr 27 wx ∧ Below W.heap.size W wx
theorem sizeI64 : (Try.prog.info? 3).map (·.size) = some 1 := by kernel_rfl

theorem ways3 (f a b : Pl) : (befB a b = true ∧ (!befB f a || befB f b) = true) ∨ (befB a b = false ∧ befB b a = true ∧ (!befB f b || befB f a) = true) ∨ (befB a b = false ∧ befB b a = false ∧ Pl.same a b = true ∧ befB f a = befB f b) := by
  have tr : ∀ x y : Pl, befB x y = true → (!befB f x || befB f y) = true := fun x y h => by
    cases hf : befB f x with
    | false => rfl
    | true =>
      unfold befB at h hf ⊢
      rw [decide_eq_true_eq] at h hf
      simp
      omega
  cases h : befB a b with
  | true => exact .inl ⟨rfl, tr a b h⟩
  | false =>
    cases h2 : befB b a with
    | true => exact .inr (.inl ⟨rfl, rfl, tr b a h2⟩)
    | false =>
      have e : a = b := by
        unfold befB at h h2
        rw [decide_eq_false_iff_not] at h h2
        obtain ⟨r, f, s⟩ := a
        obtain ⟨r', f', s'⟩ := b
        simp only at h h2
        obtain rfl : r = r' := by omega
        obtain rfl : f = f' := by omega
        obtain rfl : s = s' := by omega
        rfl
      subst e
      exact .inr (.inr ⟨rfl, rfl, Pl.same_self a, rfl⟩)

set_option maxHeartbeats 16000000 in
theorem walk (c : Nat → Nat) (kc : ∀ i, c i < 4294967296) (d : Nat → Nat) (kd : ∀ i, d i < 4294967296) (m : Nat → Nat) (p : Pl) (kp : p.r < 4294967296) (w : World) : Calls Try.prog 6 #[.agg (mbc c), .agg (mbc d), .agg (rpc m p)] w fun e w' => e = .returned (.bool true) ∧ Below w.heap.size w w' := by
  have HR : Hid (p.r < 4294967296) := kp
  have HC : Hid (∀ i, c i < 4294967296) := kc
  have HD : Hid (∀ i, d i < 4294967296) := kd
  clear kc kp kd
  obtain ⟨a0, a1, a2, hB⟩ := three_blk (T0 := 24) (T1 := 24) (T2 := 44) (C0 := mbc c) (C1 := mbc d) (C2 := rpc m p) (w := w) rfl
  go_enter Try.func6, Try.ntmps6
  go_upto_region 1 with fail
  generalize ((w.alloc (Obj.cells (mbc c) 24)).alloc (Obj.cells (mbc d) 24)).alloc (Obj.cells (rpc m p) 44) = W at a0 a1 a2 hB ⊢
  have hC0 : Below W.heap.size W W.drew := (Below.refl _ _).drew
  have hl0 := a0.lt
  have hl1 := a1.lt
  have hl2 := a2.lt
  go_cut [7, 8] from 14 to 17 (fun mv pv wx => Cut1 w W c d m p mv pv wx)
  case first =>
    refine wp_region_held_drew (S := fun w' => Blk w.heap.size (mbc c) 24 w' ∧ Blk (w.heap.size + 1) (mbc d) 24 w' ∧ Blk (w.heap.size + 1 + 1) (rpc m p) 44 w') (by kernel_rfl) ⟨a0, a1, a2⟩ (fun hHeld => ?_)
    refine wpAnyH_take (i := 0) (v := ?v1) rfl (by kernel_rfl) (by kernel_rfl) (by kernel_rfl) (fun _ _ _ h => h) (Or.inl ⟨by rfl, ?hy1⟩) hHeld ?rest1
    case hy1 => (intro w hSw; clear hSw; go_simp; try with_reducible rfl)
    try simp only [List.getElem_toArray]
    try simp only [List.getElem_cons_succ]
    try simp only [List.getElem_cons_zero]
    try simp only [Act.put]
    try simp only [List.setIfInBounds_toArray]
    try simp only [List.set_cons_succ]
    try simp only [List.set_cons_zero]
    refine' wpAnyH_take (i := 1) (v := _) rfl (by kernel_rfl) (by kernel_rfl) (by kernel_rfl) (fun _ _ _ h => h) (yieldsIf_load_mid (by rfl) _ _ rfl (w.heap.size + 1 + 1) 0 rfl (row8 m) _ ?hS2 Try.underlying25 rfl sizeMb) hHeld ?rest2
    case hS2 => exact fun w h => h.2.2.range 0 (row8 m) (rpc_m m p)
    try simp only [List.getElem_toArray]
    try simp only [List.getElem_cons_succ]
    try simp only [List.getElem_cons_zero]
    try simp only [Act.put]
    try simp only [List.setIfInBounds_toArray]
    try simp only [List.set_cons_succ]
    try simp only [List.set_cons_zero]
    refine wpAnyH_take (i := 2) (v := ?v3) rfl (by kernel_rfl) (by kernel_rfl) (by kernel_rfl) (fun _ _ _ h => h) (Or.inl ⟨by rfl, ?hy3⟩) hHeld ?rest3
    case hy3 => (intro w hSw; clear hSw; go_simp; try with_reducible rfl)
    try simp only [List.getElem_toArray]
    try simp only [List.getElem_cons_succ]
    try simp only [List.getElem_cons_zero]
    try simp only [Act.put]
    try simp only [List.setIfInBounds_toArray]
    try simp only [List.set_cons_succ]
    try simp only [List.set_cons_zero]
    refine' wpAnyH_take (i := 3) (v := _) rfl (by kernel_rfl) (by kernel_rfl) (by kernel_rfl) (fun _ _ _ h => h) (yieldsIf_load_mid (by rfl) _ _ rfl (w.heap.size + 1 + 1) 8 rfl p.vals _ ?hS4 Try.underlying27 rfl sizePl) hHeld ?rest4
    case hS4 => exact fun w h => h.2.2.range 8 p.vals (rpc_p m p)
    try simp only [List.getElem_toArray]
    try simp only [List.getElem_cons_succ]
    try simp only [List.getElem_cons_zero]
    try simp only [Act.put]
    try simp only [List.setIfInBounds_toArray]
    try simp only [List.set_cons_succ]
    try simp only [List.set_cons_zero]
    refine wpAnyH_ready (rs := [4, 5]) (by kernel_rfl) (by simp) ?_
    refine AllReadyH.cons rfl (fun K hK => ?_) (AllReadyH.cons rfl (fun K hK => ?_) (AllReadyH.nil))
    · rw [if_pos (by rfl)]
      refine wp_alloc_any zeroMb rfl ?_
      intro mp u1 m1 hb ml mt
      have mg := Nat.le_trans hC0.size ml
      have hC1 := hC0.trans (hb.mono hC0.size)
      refine hK.out _ _ ⟨hHeld.1.below hb, hHeld.2.1.below hb, hHeld.2.2.below hb⟩ (fun hHeld => ?_)
      clear hK K hb hC0
      try simp only [List.getElem_toArray]
      try simp only [List.getElem_cons_succ]
      try simp only [List.getElem_cons_zero]
      try simp only [Act.put]
      try simp only [List.setIfInBounds_toArray]
      try simp only [List.set_cons_succ]
      try simp only [List.set_cons_zero]
      refine wpAnyH_ready (rs := [5]) (by kernel_rfl) (by simp) ?_
      refine AllReadyH.cons rfl (fun K hK => ?_) (AllReadyH.nil)
      rw [if_pos (by rfl)]
      refine wp_alloc_any zeroPl rfl ?_
      intro pp u2 p2 hb pl pt
      have mpn : mp < pp := Nat.lt_of_lt_of_le m1.lt pl
      have pg := Nat.le_trans hC1.size pl
      have hC2 := hC1.trans (hb.mono hC1.size)
      have m2 := m1.below hb
      refine hK.out _ _ ⟨hHeld.1.below hb, hHeld.2.1.below hb, hHeld.2.2.below hb⟩ (fun hHeld => ?_)
      clear hK K hb hC1 m1
      try simp only [List.getElem_toArray]
      try simp only [List.getElem_cons_succ]
      try simp only [List.getElem_cons_zero]
      try simp only [Act.put]
      try simp only [List.setIfInBounds_toArray]
      try simp only [List.set_cons_succ]
      try simp only [List.set_cons_zero]
      refine wpAnyH_ready (rs := [6]) (by kernel_rfl) (by simp) ?_
      refine AllReadyH.cons rfl (fun K hK => ?_) (AllReadyH.nil)
      rw [if_pos (by rfl)]
      refine wp_store_all 25 _ _ rfl (cells := mbc m) m2 rfl rfl sizeMb rfl (mbc_one m) ?_
      intro u3 hn hk
      have hC3 := hC2.trans (hk.below (by simp; omega) hC2.size)
      have m3 := hn
      have p3 := p2.kp hk (by simp; omega)
      refine hK.out _ _ ⟨hHeld.1.kp hk (by simp; omega), hHeld.2.1.kp hk (by simp; omega), hHeld.2.2.kp hk (by simp; omega)⟩ (fun hHeld => ?_)
      clear hK K hk hn hC2 m2 p2
      try simp only [List.getElem_toArray]
      try simp only [List.getElem_cons_succ]
      try simp only [List.getElem_cons_zero]
      try simp only [Act.put]
      try simp only [List.setIfInBounds_toArray]
      try simp only [List.set_cons_succ]
      try simp only [List.set_cons_zero]
      refine wpAnyH_ready (rs := [7]) (by kernel_rfl) (by simp) ?_
      refine AllReadyH.cons rfl (fun K hK => ?_) (AllReadyH.nil)
      rw [if_pos (by rfl)]
      refine wp_store_all 27 _ _ rfl (cells := p.arr) p3 rfl rfl p.size rfl p.arr_one ?_
      intro u4 hn hk
      have hC4 := hC3.trans (hk.below (by simp; omega) hC3.size)
      have m4 := m3.kp hk (by simp; omega)
      have p4 := hn
      refine hK.out _ _ ⟨hHeld.1.kp hk (by simp; omega), hHeld.2.1.kp hk (by simp; omega), hHeld.2.2.kp hk (by simp; omega)⟩ (fun hHeld => ?_)
      clear hK K hk hn hC3 m3 p3
      try simp only [List.getElem_toArray]
      try simp only [List.getElem_cons_succ]
      try simp only [List.getElem_cons_zero]
      try simp only [Act.put]
      try simp only [List.setIfInBounds_toArray]
      try simp only [List.set_cons_succ]
      try simp only [List.set_cons_zero]
      refine wpAnyH_done (by kernel_rfl) ?_ _
      go_wp2_with fail
      go_meet
      exact ⟨mp, pp, rfl, rfl, hHeld.1, hHeld.2.1, m4, p4, hC4⟩
    · rw [if_pos (by rfl)]
      refine wp_alloc_any zeroPl rfl ?_
      intro pp u5 p1 hb pl pt
      have pg := Nat.le_trans hC0.size pl
      have hC1 := hC0.trans (hb.mono hC0.size)
      refine hK.out _ _ ⟨hHeld.1.below hb, hHeld.2.1.below hb, hHeld.2.2.below hb⟩ (fun hHeld => ?_)
      clear hK K hb hC0
      try simp only [List.getElem_toArray]
      try simp only [List.getElem_cons_succ]
      try simp only [List.getElem_cons_zero]
      try simp only [Act.put]
      try simp only [List.setIfInBounds_toArray]
      try simp only [List.set_cons_succ]
      try simp only [List.set_cons_zero]
      refine wpAnyH_ready (rs := [4]) (by kernel_rfl) (by simp) ?_
      refine AllReadyH.cons rfl (fun K hK => ?_) (AllReadyH.nil)
      rw [if_pos (by rfl)]
      refine wp_alloc_any zeroMb rfl ?_
      intro mp u6 m2 hb ml mt
      have pmn : pp < mp := Nat.lt_of_lt_of_le p1.lt ml
      have mg := Nat.le_trans hC1.size ml
      have hC2 := hC1.trans (hb.mono hC1.size)
      have p2 := p1.below hb
      refine hK.out _ _ ⟨hHeld.1.below hb, hHeld.2.1.below hb, hHeld.2.2.below hb⟩ (fun hHeld => ?_)
      clear hK K hb hC1 p1
      try simp only [List.getElem_toArray]
      try simp only [List.getElem_cons_succ]
      try simp only [List.getElem_cons_zero]
      try simp only [Act.put]
      try simp only [List.setIfInBounds_toArray]
      try simp only [List.set_cons_succ]
      try simp only [List.set_cons_zero]
      refine wpAnyH_ready (rs := [6]) (by kernel_rfl) (by simp) ?_
      refine AllReadyH.cons rfl (fun K hK => ?_) (AllReadyH.nil)
      rw [if_pos (by rfl)]
      refine wp_store_all 25 _ _ rfl (cells := mbc m) m2 rfl rfl sizeMb rfl (mbc_one m) ?_
      intro u7 hn hk
      have hC3 := hC2.trans (hk.below (by simp; omega) hC2.size)
      have p3 := p2.kp hk (by simp; omega)
      have m3 := hn
      refine hK.out _ _ ⟨hHeld.1.kp hk (by simp; omega), hHeld.2.1.kp hk (by simp; omega), hHeld.2.2.kp hk (by simp; omega)⟩ (fun hHeld => ?_)
      clear hK K hk hn hC2 p2 m2
      try simp only [List.getElem_toArray]
      try simp only [List.getElem_cons_succ]
      try simp only [List.getElem_cons_zero]
      try simp only [Act.put]
      try simp only [List.setIfInBounds_toArray]
      try simp only [List.set_cons_succ]
      try simp only [List.set_cons_zero]
      refine wpAnyH_ready (rs := [7]) (by kernel_rfl) (by simp) ?_
      refine AllReadyH.cons rfl (fun K hK => ?_) (AllReadyH.nil)
      rw [if_pos (by rfl)]
      refine wp_store_all 27 _ _ rfl (cells := p.arr) p3 rfl rfl p.size rfl p.arr_one ?_
      intro u8 hn hk
      have hC4 := hC3.trans (hk.below (by simp; omega) hC3.size)
      have p4 := hn
      have m4 := m3.kp hk (by simp; omega)
      refine hK.out _ _ ⟨hHeld.1.kp hk (by simp; omega), hHeld.2.1.kp hk (by simp; omega), hHeld.2.2.kp hk (by simp; omega)⟩ (fun hHeld => ?_)
      clear hK K hk hn hC3 p3 m3
      try simp only [List.getElem_toArray]
      try simp only [List.getElem_cons_succ]
      try simp only [List.getElem_cons_zero]
      try simp only [Act.put]
      try simp only [List.setIfInBounds_toArray]
      try simp only [List.set_cons_succ]
      try simp only [List.set_cons_zero]
      refine wpAnyH_done (by kernel_rfl) ?_ _
      go_wp2_with fail
      go_meet
      exact ⟨mp, pp, rfl, rfl, hHeld.1, hHeld.2.1, m4, p4, hC4⟩
  case rest =>
    obtain ⟨mp, pp, rfl, rfl, b0, b1, b2, b3, hC⟩ := hcut
    clear a0 a1 a2 hC0 hl0 hl1 hl2
    rename World => V
    replace hB := hB.trans (hC.mono hB.size)
    clear hC
    go_wp2_with fail
    refine (fixed_ok _).mono ?_
    rintro r w2 ⟨rfl, hb⟩
    replace b0 := b0.below hb
    replace b1 := b1.below hb
    replace b2 := b2.below hb
    replace b3 := b3.below hb
    replace hB := hB.trans (hb.mono hB.size)
    clear hb 
    rename Blk w.heap.size (mbc c) 24 w2 => a0
    rename Blk (w.heap.size + 1) (mbc d) 24 w2 => a1
    rename Blk mp (mbc m) 25 w2 => a2
    rename Blk pp p.arr 27 w2 => a3
    have qr := a3.cell 0 (.int .u32 (p.r : Int)) rfl
    have qf := a3.cell 1 (.int .i64 p.f) rfl
    have qs := a3.cell 2 (.int .i64 p.s) rfl
    by_cases h0 : p.f < 0
    · have g0 : decide (p.f < 0) = true := by simpa using h0
      clear h0
      go_wp2_with fail
      refine (fixed_ok _).mono ?_
      rintro r w3 ⟨rfl, hb⟩
      replace hB := hB.trans (hb.mono hB.size)
      clear hb
      go_wp2_with fail
      go_ret
      exact ⟨rfl, hB⟩
    · by_cases h1 : 7 < p.f
      · have g0 : decide (p.f < 0) = false := by simpa using h0
        have g1 : decide (7 < p.f) = true := by simpa using h1
        clear h0 h1
        go_wp2_with fail
        refine (fixed_ok _).mono ?_
        rintro r w3 ⟨rfl, hb⟩
        replace hB := hB.trans (hb.mono hB.size)
        clear hb
        go_wp2_with fail
        go_ret
        exact ⟨rfl, hB⟩
      · obtain ⟨k, hf⟩ : ∃ k : Nat, p.f = (k : Int) := ⟨p.f.toNat, by omega⟩
        have hk8 : k < 8 := by omega
        have k0 : (k : Int) < 8 := by omega
        have k1 : (0 : Int) ≤ (k : Int) := by omega
        have g1 : decide (7 < k) = false := by simp; omega
        have g1' : decide ((7 : Int) < (k : Int)) = false := by simp; omega
        rw [hf] at qf
        have qm := a2.cell k _ (mbc_get m k hk8)
        clear h0 h1
        by_cases h2 : m k = 0
        · rw [h2] at qm
          clear h2 hf
          go_wp2_with fail
          refine (fixed_ok _).mono ?_
          rintro r w3 ⟨rfl, hb⟩
          replace hB := hB.trans (hb.mono hB.size)
          clear hb
          go_wp2_with fail
          go_ret
          exact ⟨rfl, hB⟩
        · have g2 : ((m k : Int) == 0) = false := by rw [beq_eq_false_iff_ne]; omega
          by_cases h3 : p.r = 0
          · rw [h3] at qr
            clear h2 h3 hf
            go_wp2_with fail
            refine (fixed_ok _).mono ?_
            rintro r w3 ⟨rfl, hb⟩
            replace hB := hB.trans (hb.mono hB.size)
            clear hb
            go_wp2_with fail
            go_ret
            exact ⟨rfl, hB⟩
          · have g3 : ((p.r : Int) == 0) = false := by rw [beq_eq_false_iff_ne]; omega
            by_cases h4 : p.r = 4294967295
            · rw [h4] at qr
              clear h2 h3 h4 hf g3
              go_wp2_with fail
              refine (fixed_ok _).mono ?_
              rintro r w3 ⟨rfl, hb⟩
              replace hB := hB.trans (hb.mono hB.size)
              clear hb
              go_wp2_with fail
              go_ret
              exact ⟨rfl, hB⟩
            · have g4 : ((p.r : Int) == 4294967295) = false := by rw [beq_eq_false_iff_ne]; omega
              by_cases h5 : p.s < 0
              · have g5 : decide (p.s < 0) = true := by simpa using h5
                clear h2 h3 h4 h5 hf
                go_wp2_with fail
                refine (fixed_ok _).mono ?_
                rintro r w3 ⟨rfl, hb⟩
                replace hB := hB.trans (hb.mono hB.size)
                clear hb
                go_wp2_with fail
                go_ret
                exact ⟨rfl, hB⟩
              · have g5 : decide (p.s < 0) = false := by simpa using h5
                have hk : k ∈ lst m := (mem_lst m k).2 ⟨hk8, h2⟩
                have HU : Hid (svcB c m p 2 = befB ⟨p.r, p.f, 0⟩ (posP c m)) := agreed_pos c m HC.out p k hf hk h3 (by have := HR.out; omega)
                have HV : Hid (svcB d m p 2 = befB ⟨p.r, p.f, 0⟩ (posP d m)) := agreed_pos d m HD.out p k hf hk h3 (by have := HR.out; omega)
                clear h2 h3 h4 h5 hf hk
                go_upto_region 4 with fail
                try simp only [Act.put, List.setIfInBounds_toArray, List.set_cons_zero, List.set_cons_succ]
                clear qr qf qs qm g1 g1' g2 g3 g4 g5 k0 k1
                have pA := pos_ok c m HC.out
                have pB := pos_ok d m HD.out
                have pS := svc_ok c m p 2 HR.out
                have pT := svc_ok d m p 2 HR.out
                rw [HU.out] at pS
                rw [HV.out] at pT
                have pE := bef_ok ⟨p.r, p.f, 0⟩ (posP c m)
                have pF := bef_ok ⟨p.r, p.f, 0⟩ (posP d m)
                have pC := bef_ok (posP c m) (posP d m)
                have pD := bef_ok (posP d m) (posP c m)
                have kP := eqlPl (posP c m) (posP d m) _ rfl
                have h := ways3 ⟨p.r, p.f, 0⟩ (posP c m) (posP d m)
                generalize posP c m = A at *
                generalize posP d m = B at *
                generalize befB ⟨p.r, p.f, 0⟩ A = u at *
                generalize befB ⟨p.r, p.f, 0⟩ B = v at *
                generalize befB A B = x at *
                generalize befB B A = y at *
                generalize Pl.same A B = z at *
                have Hh : Hid ((x = true ∧ (!u || v) = true) ∨ (x = false ∧ y = true ∧ (!v || u) = true) ∨ (x = false ∧ y = false ∧ z = true ∧ u = v)) := h
                clear h HU HV HC HD HR
                have hC0 : Below w2.heap.size w2 w2.drew := (Below.refl _ _).drew
                have hl0 := a0.lt
                have hl1 := a1.lt
                have hl2 := a2.lt
                have hl3 := a3.lt
                go_cut [9, 10] from 53 to 58 (fun xv yv wx => Cut2 w w2 c d m p A B mp pp xv yv wx)
                case first =>
                  refine wp_region_held_drew (S := fun w' => Blk w.heap.size (mbc c) 24 w' ∧ Blk (w.heap.size + 1) (mbc d) 24 w' ∧ Blk mp (mbc m) 25 w' ∧ Blk pp p.arr 27 w') (by kernel_rfl) ⟨a0, a1, a2, a3⟩ (fun hHeld => ?_)
                  refine' wpAnyH_take (i := 0) (v := _) rfl (by kernel_rfl) (by kernel_rfl) (by kernel_rfl) (fun _ _ _ h => h) (yieldsIf_load_mid (by rfl) _ _ rfl w.heap.size 0 rfl (row8 c) _ ?hS5 Try.underlying24 rfl sizeCt) hHeld ?rest5
                  case hS5 => exact fun w h => h.1.whole
                  try simp only [List.getElem_toArray]
                  try simp only [List.getElem_cons_succ]
                  try simp only [List.getElem_cons_zero]
                  try simp only [Act.put]
                  try simp only [List.setIfInBounds_toArray]
                  try simp only [List.set_cons_succ]
                  try simp only [List.set_cons_zero]
                  refine' wpAnyH_take (i := 1) (v := _) rfl (by kernel_rfl) (by kernel_rfl) (by kernel_rfl) (fun _ _ _ h => h) (yieldsIf_load_mid (by rfl) _ _ rfl mp 0 rfl (row8 m) _ ?hS6 Try.underlying25 rfl sizeMb) hHeld ?rest6
                  case hS6 => exact fun w h => h.2.2.1.whole
                  try simp only [List.getElem_toArray]
                  try simp only [List.getElem_cons_succ]
                  try simp only [List.getElem_cons_zero]
                  try simp only [Act.put]
                  try simp only [List.setIfInBounds_toArray]
                  try simp only [List.set_cons_succ]
                  try simp only [List.set_cons_zero]
                  refine' wpAnyH_take (i := 3) (v := _) rfl (by kernel_rfl) (by kernel_rfl) (by kernel_rfl) (fun _ _ _ h => h) (yieldsIf_load_mid (by rfl) _ _ rfl (w.heap.size + 1) 0 rfl (row8 d) _ ?hS7 Try.underlying24 rfl sizeCt) hHeld ?rest7
                  case hS7 => exact fun w h => h.2.1.whole
                  try simp only [List.getElem_toArray]
                  try simp only [List.getElem_cons_succ]
                  try simp only [List.getElem_cons_zero]
                  try simp only [Act.put]
                  try simp only [List.setIfInBounds_toArray]
                  try simp only [List.set_cons_succ]
                  try simp only [List.set_cons_zero]
                  refine' wpAnyH_take (i := 4) (v := _) rfl (by kernel_rfl) (by kernel_rfl) (by kernel_rfl) (fun _ _ _ h => h) (yieldsIf_load_mid (by rfl) _ _ rfl mp 0 rfl (row8 m) _ ?hS8 Try.underlying25 rfl sizeMb) hHeld ?rest8
                  case hS8 => exact fun w h => h.2.2.1.whole
                  try simp only [List.getElem_toArray]
                  try simp only [List.getElem_cons_succ]
                  try simp only [List.getElem_cons_zero]
                  try simp only [Act.put]
                  try simp only [List.setIfInBounds_toArray]
                  try simp only [List.set_cons_succ]
                  try simp only [List.set_cons_zero]
                  refine wpAnyH_ready (rs := [2, 6, 7]) (by kernel_rfl) (by simp) ?_
                  refine AllReadyH.cons rfl (fun K hK => ?_) (AllReadyH.cons rfl (fun K hK => ?_) (AllReadyH.cons rfl (fun K hK => ?_) (AllReadyH.nil)))
                  · go_simp
                    go_wp2_with (refine (pA _).mono ?_; rintro r u1 ⟨rfl, hb⟩)
                    have hC1 := hC0.trans (hb.mono hC0.size)
                    refine hK.out _ _ ⟨hHeld.1.below hb, hHeld.2.1.below hb, hHeld.2.2.1.below hb, hHeld.2.2.2.below hb⟩ (fun hHeld => ?_)
                    clear hK K hb hC0
                    refine wpAnyH_ready (rs := [5, 6, 7]) (by kernel_rfl) (by simp) ?_
                    refine AllReadyH.cons rfl (fun K hK => ?_) (AllReadyH.cons rfl (fun K hK => ?_) (AllReadyH.cons rfl (fun K hK => ?_) (AllReadyH.nil)))
                    · go_simp
                      go_wp2_with (refine (pB _).mono ?_; rintro r u2 ⟨rfl, hb⟩)
                      have hC2 := hC1.trans (hb.mono hC1.size)
                      refine hK.out _ _ ⟨hHeld.1.below hb, hHeld.2.1.below hb, hHeld.2.2.1.below hb, hHeld.2.2.2.below hb⟩ (fun hHeld => ?_)
                      clear hK K hb hC1
                      refine wpAnyH_ready (rs := [6, 7]) (by kernel_rfl) (by simp) ?_
                      refine AllReadyH.cons rfl (fun K hK => ?_) (AllReadyH.cons rfl (fun K hK => ?_) (AllReadyH.nil))
                      · rw [if_pos (by rfl)]
                        refine wp_alloc_any zeroPl rfl ?_
                        intro xp u3 x3 hb xl xt
                        have xg := Nat.le_trans hC2.size xl
                        have hC3 := hC2.trans (hb.mono hC2.size)
                        refine hK.out _ _ ⟨hHeld.1.below hb, hHeld.2.1.below hb, hHeld.2.2.1.below hb, hHeld.2.2.2.below hb⟩ (fun hHeld => ?_)
                        clear hK K hb hC2
                        try simp only [List.getElem_toArray]
                        try simp only [List.getElem_cons_succ]
                        try simp only [List.getElem_cons_zero]
                        try simp only [Act.put]
                        try simp only [List.setIfInBounds_toArray]
                        try simp only [List.set_cons_succ]
                        try simp only [List.set_cons_zero]
                        refine wpAnyH_ready (rs := [7]) (by kernel_rfl) (by simp) ?_
                        refine AllReadyH.cons rfl (fun K hK => ?_) (AllReadyH.nil)
                        rw [if_pos (by rfl)]
                        refine wp_alloc_any zeroPl rfl ?_
                        intro yp u4 y4 hb yl yt
                        have xyn : xp < yp := Nat.lt_of_lt_of_le x3.lt yl
                        have yg := Nat.le_trans hC3.size yl
                        have hC4 := hC3.trans (hb.mono hC3.size)
                        have x4 := x3.below hb
                        refine hK.out _ _ ⟨hHeld.1.below hb, hHeld.2.1.below hb, hHeld.2.2.1.below hb, hHeld.2.2.2.below hb⟩ (fun hHeld => ?_)
                        clear hK K hb hC3 x3
                        try simp only [List.getElem_toArray]
                        try simp only [List.getElem_cons_succ]
                        try simp only [List.getElem_cons_zero]
                        try simp only [Act.put]
                        try simp only [List.setIfInBounds_toArray]
                        try simp only [List.set_cons_succ]
                        try simp only [List.set_cons_zero]
                        refine wpAnyH_ready (rs := [8]) (by kernel_rfl) (by simp) ?_
                        refine AllReadyH.cons rfl (fun K hK => ?_) (AllReadyH.nil)
                        rw [if_pos (by rfl)]
                        refine wp_store_all 27 _ _ rfl (cells := A.arr) x4 rfl rfl A.size rfl A.arr_one ?_
                        intro u5 hn hk
                        have hC5 := hC4.trans (hk.below (by simp; omega) hC4.size)
                        have x5 := hn
                        have y5 := y4.kp hk (by simp; omega)
                        refine hK.out _ _ ⟨hHeld.1.kp hk (by simp; omega), hHeld.2.1.kp hk (by simp; omega), hHeld.2.2.1.kp hk (by simp; omega), hHeld.2.2.2.kp hk (by simp; omega)⟩ (fun hHeld => ?_)
                        clear hK K hk hn hC4 x4 y4
                        try simp only [List.getElem_toArray]
                        try simp only [List.getElem_cons_succ]
                        try simp only [List.getElem_cons_zero]
                        try simp only [Act.put]
                        try simp only [List.setIfInBounds_toArray]
                        try simp only [List.set_cons_succ]
                        try simp only [List.set_cons_zero]
                        refine wpAnyH_ready (rs := [9]) (by kernel_rfl) (by simp) ?_
                        refine AllReadyH.cons rfl (fun K hK => ?_) (AllReadyH.nil)
                        rw [if_pos (by rfl)]
                        refine wp_store_all 27 _ _ rfl (cells := B.arr) y5 rfl rfl B.size rfl B.arr_one ?_
                        intro u6 hn hk
                        have hC6 := hC5.trans (hk.below (by simp; omega) hC5.size)
                        have x6 := x5.kp hk (by simp; omega)
                        have y6 := hn
                        refine hK.out _ _ ⟨hHeld.1.kp hk (by simp; omega), hHeld.2.1.kp hk (by simp; omega), hHeld.2.2.1.kp hk (by simp; omega), hHeld.2.2.2.kp hk (by simp; omega)⟩ (fun hHeld => ?_)
                        clear hK K hk hn hC5 x5 y5
                        try simp only [List.getElem_toArray]
                        try simp only [List.getElem_cons_succ]
                        try simp only [List.getElem_cons_zero]
                        try simp only [Act.put]
                        try simp only [List.setIfInBounds_toArray]
                        try simp only [List.set_cons_succ]
                        try simp only [List.set_cons_zero]
                        refine wpAnyH_done (by kernel_rfl) ?_ _
                        go_wp2_with fail
                        go_meet
                        exact ⟨xp, yp, rfl, rfl, hHeld.1, hHeld.2.1, hHeld.2.2.1, hHeld.2.2.2, x6, y6, hC6⟩
                      · rw [if_pos (by rfl)]
                        refine wp_alloc_any zeroPl rfl ?_
                        intro yp u7 y3 hb yl yt
                        have yg := Nat.le_trans hC2.size yl
                        have hC3 := hC2.trans (hb.mono hC2.size)
                        refine hK.out _ _ ⟨hHeld.1.below hb, hHeld.2.1.below hb, hHeld.2.2.1.below hb, hHeld.2.2.2.below hb⟩ (fun hHeld => ?_)
                        clear hK K hb hC2
                        try simp only [List.getElem_toArray]
                        try simp only [List.getElem_cons_succ]
                        try simp only [List.getElem_cons_zero]
                        try simp only [Act.put]
                        try simp only [List.setIfInBounds_toArray]
                        try simp only [List.set_cons_succ]
                        try simp only [List.set_cons_zero]
                        refine wpAnyH_ready (rs := [6]) (by kernel_rfl) (by simp) ?_
                        refine AllReadyH.cons rfl (fun K hK => ?_) (AllReadyH.nil)
                        rw [if_pos (by rfl)]
                        refine wp_alloc_any zeroPl rfl ?_
                        intro xp u8 x4 hb xl xt
                        have yxn : yp < xp := Nat.lt_of_lt_of_le y3.lt xl
                        have xg := Nat.le_trans hC3.size xl
                        have hC4 := hC3.trans (hb.mono hC3.size)
                        have y4 := y3.below hb
                        refine hK.out _ _ ⟨hHeld.1.below hb, hHeld.2.1.below hb, hHeld.2.2.1.below hb, hHeld.2.2.2.below hb⟩ (fun hHeld => ?_)
                        clear hK K hb hC3 y3
                        try simp only [List.getElem_toArray]
                        try simp only [List.getElem_cons_succ]
                        try simp only [List.getElem_cons_zero]
                        try simp only [Act.put]
                        try simp only [List.setIfInBounds_toArray]
                        try simp only [List.set_cons_succ]
                        try simp only [List.set_cons_zero]
                        refine wpAnyH_ready (rs := [8]) (by kernel_rfl) (by simp) ?_
                        refine AllReadyH.cons rfl (fun K hK => ?_) (AllReadyH.nil)
                        rw [if_pos (by rfl)]
                        refine wp_store_all 27 _ _ rfl (cells := A.arr) x4 rfl rfl A.size rfl A.arr_one ?_
                        intro u9 hn hk
                        have hC5 := hC4.trans (hk.below (by simp; omega) hC4.size)
                        have y5 := y4.kp hk (by simp; omega)
                        have x5 := hn
                        refine hK.out _ _ ⟨hHeld.1.kp hk (by simp; omega), hHeld.2.1.kp hk (by simp; omega), hHeld.2.2.1.kp hk (by simp; omega), hHeld.2.2.2.kp hk (by simp; omega)⟩ (fun hHeld => ?_)
                        clear hK K hk hn hC4 y4 x4
                        try simp only [List.getElem_toArray]
                        try simp only [List.getElem_cons_succ]
                        try simp only [List.getElem_cons_zero]
                        try simp only [Act.put]
                        try simp only [List.setIfInBounds_toArray]
                        try simp only [List.set_cons_succ]
                        try simp only [List.set_cons_zero]
                        refine wpAnyH_ready (rs := [9]) (by kernel_rfl) (by simp) ?_
                        refine AllReadyH.cons rfl (fun K hK => ?_) (AllReadyH.nil)
                        rw [if_pos (by rfl)]
                        refine wp_store_all 27 _ _ rfl (cells := B.arr) y5 rfl rfl B.size rfl B.arr_one ?_
                        intro u10 hn hk
                        have hC6 := hC5.trans (hk.below (by simp; omega) hC5.size)
                        have y6 := hn
                        have x6 := x5.kp hk (by simp; omega)
                        refine hK.out _ _ ⟨hHeld.1.kp hk (by simp; omega), hHeld.2.1.kp hk (by simp; omega), hHeld.2.2.1.kp hk (by simp; omega), hHeld.2.2.2.kp hk (by simp; omega)⟩ (fun hHeld => ?_)
                        clear hK K hk hn hC5 y5 x5
                        try simp only [List.getElem_toArray]
                        try simp only [List.getElem_cons_succ]
                        try simp only [List.getElem_cons_zero]
                        try simp only [Act.put]
                        try simp only [List.setIfInBounds_toArray]
                        try simp only [List.set_cons_succ]
                        try simp only [List.set_cons_zero]
                        refine wpAnyH_done (by kernel_rfl) ?_ _
                        go_wp2_with fail
                        go_meet
                        exact ⟨xp, yp, rfl, rfl, hHeld.1, hHeld.2.1, hHeld.2.2.1, hHeld.2.2.2, x6, y6, hC6⟩
                    · rw [if_pos (by rfl)]
                      refine wp_alloc_any zeroPl rfl ?_
                      intro xp u11 x2 hb xl xt
                      have xg := Nat.le_trans hC1.size xl
                      have hC2 := hC1.trans (hb.mono hC1.size)
                      refine hK.out _ _ ⟨hHeld.1.below hb, hHeld.2.1.below hb, hHeld.2.2.1.below hb, hHeld.2.2.2.below hb⟩ (fun hHeld => ?_)
                      clear hK K hb hC1
                      try simp only [List.getElem_toArray]
                      try simp only [List.getElem_cons_succ]
                      try simp only [List.getElem_cons_zero]
                      try simp only [Act.put]
                      try simp only [List.setIfInBounds_toArray]
                      try simp only [List.set_cons_succ]
                      try simp only [List.set_cons_zero]
                      refine wpAnyH_ready (rs := [5, 7]) (by kernel_rfl) (by simp) ?_
                      refine AllReadyH.cons rfl (fun K hK => ?_) (AllReadyH.cons rfl (fun K hK => ?_) (AllReadyH.nil))
                      · go_simp
                        go_wp2_with (refine (pB _).mono ?_; rintro r u12 ⟨rfl, hb⟩)
                        have hC3 := hC2.trans (hb.mono hC2.size)
                        have x3 := x2.below hb
                        refine hK.out _ _ ⟨hHeld.1.below hb, hHeld.2.1.below hb, hHeld.2.2.1.below hb, hHeld.2.2.2.below hb⟩ (fun hHeld => ?_)
                        clear hK K hb hC2 x2
                        refine wpAnyH_ready (rs := [7]) (by kernel_rfl) (by simp) ?_
                        refine AllReadyH.cons rfl (fun K hK => ?_) (AllReadyH.nil)
                        rw [if_pos (by rfl)]
                        refine wp_alloc_any zeroPl rfl ?_
                        intro yp u13 y4 hb yl yt
                        have xyn : xp < yp := Nat.lt_of_lt_of_le x3.lt yl
                        have yg := Nat.le_trans hC3.size yl
                        have hC4 := hC3.trans (hb.mono hC3.size)
                        have x4 := x3.below hb
                        refine hK.out _ _ ⟨hHeld.1.below hb, hHeld.2.1.below hb, hHeld.2.2.1.below hb, hHeld.2.2.2.below hb⟩ (fun hHeld => ?_)
                        clear hK K hb hC3 x3
                        try simp only [List.getElem_toArray]
                        try simp only [List.getElem_cons_succ]
                        try simp only [List.getElem_cons_zero]
                        try simp only [Act.put]
                        try simp only [List.setIfInBounds_toArray]
                        try simp only [List.set_cons_succ]
                        try simp only [List.set_cons_zero]
                        refine wpAnyH_ready (rs := [8]) (by kernel_rfl) (by simp) ?_
                        refine AllReadyH.cons rfl (fun K hK => ?_) (AllReadyH.nil)
                        rw [if_pos (by rfl)]
                        refine wp_store_all 27 _ _ rfl (cells := A.arr) x4 rfl rfl A.size rfl A.arr_one ?_
                        intro u14 hn hk
                        have hC5 := hC4.trans (hk.below (by simp; omega) hC4.size)
                        have x5 := hn
                        have y5 := y4.kp hk (by simp; omega)
                        refine hK.out _ _ ⟨hHeld.1.kp hk (by simp; omega), hHeld.2.1.kp hk (by simp; omega), hHeld.2.2.1.kp hk (by simp; omega), hHeld.2.2.2.kp hk (by simp; omega)⟩ (fun hHeld => ?_)
                        clear hK K hk hn hC4 x4 y4
                        try simp only [List.getElem_toArray]
                        try simp only [List.getElem_cons_succ]
                        try simp only [List.getElem_cons_zero]
                        try simp only [Act.put]
                        try simp only [List.setIfInBounds_toArray]
                        try simp only [List.set_cons_succ]
                        try simp only [List.set_cons_zero]
                        refine wpAnyH_ready (rs := [9]) (by kernel_rfl) (by simp) ?_
                        refine AllReadyH.cons rfl (fun K hK => ?_) (AllReadyH.nil)
                        rw [if_pos (by rfl)]
                        refine wp_store_all 27 _ _ rfl (cells := B.arr) y5 rfl rfl B.size rfl B.arr_one ?_
                        intro u15 hn hk
                        have hC6 := hC5.trans (hk.below (by simp; omega) hC5.size)
                        have x6 := x5.kp hk (by simp; omega)
                        have y6 := hn
                        refine hK.out _ _ ⟨hHeld.1.kp hk (by simp; omega), hHeld.2.1.kp hk (by simp; omega), hHeld.2.2.1.kp hk (by simp; omega), hHeld.2.2.2.kp hk (by simp; omega)⟩ (fun hHeld => ?_)
                        clear hK K hk hn hC5 x5 y5
                        try simp only [List.getElem_toArray]
                        try simp only [List.getElem_cons_succ]
                        try simp only [List.getElem_cons_zero]
                        try simp only [Act.put]
                        try simp only [List.setIfInBounds_toArray]
                        try simp only [List.set_cons_succ]
                        try simp only [List.set_cons_zero]
                        refine wpAnyH_done (by kernel_rfl) ?_ _
                        go_wp2_with fail
                        go_meet
                        exact ⟨xp, yp, rfl, rfl, hHeld.1, hHeld.2.1, hHeld.2.2.1, hHeld.2.2.2, x6, y6, hC6⟩
                      · rw [if_pos (by rfl)]
                        refine wp_alloc_any zeroPl rfl ?_
                        intro yp u16 y3 hb yl yt
                        have xyn : xp < yp := Nat.lt_of_lt_of_le x2.lt yl
                        have yg := Nat.le_trans hC2.size yl
                        have hC3 := hC2.trans (hb.mono hC2.size)
                        have x3 := x2.below hb
                        refine hK.out _ _ ⟨hHeld.1.below hb, hHeld.2.1.below hb, hHeld.2.2.1.below hb, hHeld.2.2.2.below hb⟩ (fun hHeld => ?_)
                        clear hK K hb hC2 x2
                        try simp only [List.getElem_toArray]
                        try simp only [List.getElem_cons_succ]
                        try simp only [List.getElem_cons_zero]
                        try simp only [Act.put]
                        try simp only [List.setIfInBounds_toArray]
                        try simp only [List.set_cons_succ]
                        try simp only [List.set_cons_zero]
                        refine wpAnyH_ready (rs := [5]) (by kernel_rfl) (by simp) ?_
                        refine AllReadyH.cons rfl (fun K hK => ?_) (AllReadyH.nil)
                        go_simp
                        go_wp2_with (refine (pB _).mono ?_; rintro r u17 ⟨rfl, hb⟩)
                        have hC4 := hC3.trans (hb.mono hC3.size)
                        have x4 := x3.below hb
                        have y4 := y3.below hb
                        refine hK.out _ _ ⟨hHeld.1.below hb, hHeld.2.1.below hb, hHeld.2.2.1.below hb, hHeld.2.2.2.below hb⟩ (fun hHeld => ?_)
                        clear hK K hb hC3 x3 y3
                        refine wpAnyH_ready (rs := [8]) (by kernel_rfl) (by simp) ?_
                        refine AllReadyH.cons rfl (fun K hK => ?_) (AllReadyH.nil)
                        rw [if_pos (by rfl)]
                        refine wp_store_all 27 _ _ rfl (cells := A.arr) x4 rfl rfl A.size rfl A.arr_one ?_
                        intro u18 hn hk
                        have hC5 := hC4.trans (hk.below (by simp; omega) hC4.size)
                        have x5 := hn
                        have y5 := y4.kp hk (by simp; omega)
                        refine hK.out _ _ ⟨hHeld.1.kp hk (by simp; omega), hHeld.2.1.kp hk (by simp; omega), hHeld.2.2.1.kp hk (by simp; omega), hHeld.2.2.2.kp hk (by simp; omega)⟩ (fun hHeld => ?_)
                        clear hK K hk hn hC4 x4 y4
                        try simp only [List.getElem_toArray]
                        try simp only [List.getElem_cons_succ]
                        try simp only [List.getElem_cons_zero]
                        try simp only [Act.put]
                        try simp only [List.setIfInBounds_toArray]
                        try simp only [List.set_cons_succ]
                        try simp only [List.set_cons_zero]
                        refine wpAnyH_ready (rs := [9]) (by kernel_rfl) (by simp) ?_
                        refine AllReadyH.cons rfl (fun K hK => ?_) (AllReadyH.nil)
                        rw [if_pos (by rfl)]
                        refine wp_store_all 27 _ _ rfl (cells := B.arr) y5 rfl rfl B.size rfl B.arr_one ?_
                        intro u19 hn hk
                        have hC6 := hC5.trans (hk.below (by simp; omega) hC5.size)
                        have x6 := x5.kp hk (by simp; omega)
                        have y6 := hn
                        refine hK.out _ _ ⟨hHeld.1.kp hk (by simp; omega), hHeld.2.1.kp hk (by simp; omega), hHeld.2.2.1.kp hk (by simp; omega), hHeld.2.2.2.kp hk (by simp; omega)⟩ (fun hHeld => ?_)
                        clear hK K hk hn hC5 x5 y5
                        try simp only [List.getElem_toArray]
                        try simp only [List.getElem_cons_succ]
                        try simp only [List.getElem_cons_zero]
                        try simp only [Act.put]
                        try simp only [List.setIfInBounds_toArray]
                        try simp only [List.set_cons_succ]
                        try simp only [List.set_cons_zero]
                        refine wpAnyH_done (by kernel_rfl) ?_ _
                        go_wp2_with fail
                        go_meet
                        exact ⟨xp, yp, rfl, rfl, hHeld.1, hHeld.2.1, hHeld.2.2.1, hHeld.2.2.2, x6, y6, hC6⟩
                    · rw [if_pos (by rfl)]
                      refine wp_alloc_any zeroPl rfl ?_
                      intro yp u20 y2 hb yl yt
                      have yg := Nat.le_trans hC1.size yl
                      have hC2 := hC1.trans (hb.mono hC1.size)
                      refine hK.out _ _ ⟨hHeld.1.below hb, hHeld.2.1.below hb, hHeld.2.2.1.below hb, hHeld.2.2.2.below hb⟩ (fun hHeld => ?_)
                      clear hK K hb hC1
                      try simp only [List.getElem_toArray]
                      try simp only [List.getElem_cons_succ]
                      try simp only [List.getElem_cons_zero]
                      try simp only [Act.put]
                      try simp only [List.setIfInBounds_toArray]
                      try simp only [List.set_cons_succ]
                      try simp only [List.set_cons_zero]
                      refine wpAnyH_ready (rs := [5, 6]) (by kernel_rfl) (by simp) ?_
                      refine AllReadyH.cons rfl (fun K hK => ?_) (AllReadyH.cons rfl (fun K hK => ?_) (AllReadyH.nil))
                      · go_simp
                        go_wp2_with (refine (pB _).mono ?_; rintro r u21 ⟨rfl, hb⟩)
                        have hC3 := hC2.trans (hb.mono hC2.size)
                        have y3 := y2.below hb
                        refine hK.out _ _ ⟨hHeld.1.below hb, hHeld.2.1.below hb, hHeld.2.2.1.below hb, hHeld.2.2.2.below hb⟩ (fun hHeld => ?_)
                        clear hK K hb hC2 y2
                        refine wpAnyH_ready (rs := [6]) (by kernel_rfl) (by simp) ?_
                        refine AllReadyH.cons rfl (fun K hK => ?_) (AllReadyH.nil)
                        rw [if_pos (by rfl)]
                        refine wp_alloc_any zeroPl rfl ?_
                        intro xp u22 x4 hb xl xt
                        have yxn : yp < xp := Nat.lt_of_lt_of_le y3.lt xl
                        have xg := Nat.le_trans hC3.size xl
                        have hC4 := hC3.trans (hb.mono hC3.size)
                        have y4 := y3.below hb
                        refine hK.out _ _ ⟨hHeld.1.below hb, hHeld.2.1.below hb, hHeld.2.2.1.below hb, hHeld.2.2.2.below hb⟩ (fun hHeld => ?_)
                        clear hK K hb hC3 y3
                        try simp only [List.getElem_toArray]
                        try simp only [List.getElem_cons_succ]
                        try simp only [List.getElem_cons_zero]
                        try simp only [Act.put]
                        try simp only [List.setIfInBounds_toArray]
                        try simp only [List.set_cons_succ]
                        try simp only [List.set_cons_zero]
                        refine wpAnyH_ready (rs := [8]) (by kernel_rfl) (by simp) ?_
                        refine AllReadyH.cons rfl (fun K hK => ?_) (AllReadyH.nil)
                        rw [if_pos (by rfl)]
                        refine wp_store_all 27 _ _ rfl (cells := A.arr) x4 rfl rfl A.size rfl A.arr_one ?_
                        intro u23 hn hk
                        have hC5 := hC4.trans (hk.below (by simp; omega) hC4.size)
                        have y5 := y4.kp hk (by simp; omega)
                        have x5 := hn
                        refine hK.out _ _ ⟨hHeld.1.kp hk (by simp; omega), hHeld.2.1.kp hk (by simp; omega), hHeld.2.2.1.kp hk (by simp; omega), hHeld.2.2.2.kp hk (by simp; omega)⟩ (fun hHeld => ?_)
                        clear hK K hk hn hC4 y4 x4
                        try simp only [List.getElem_toArray]
                        try simp only [List.getElem_cons_succ]
                        try simp only [List.getElem_cons_zero]
                        try simp only [Act.put]
                        try simp only [List.setIfInBounds_toArray]
                        try simp only [List.set_cons_succ]
                        try simp only [List.set_cons_zero]
                        refine wpAnyH_ready (rs := [9]) (by kernel_rfl) (by simp) ?_
                        refine AllReadyH.cons rfl (fun K hK => ?_) (AllReadyH.nil)
                        rw [if_pos (by rfl)]
                        refine wp_store_all 27 _ _ rfl (cells := B.arr) y5 rfl rfl B.size rfl B.arr_one ?_
                        intro u24 hn hk
                        have hC6 := hC5.trans (hk.below (by simp; omega) hC5.size)
                        have y6 := hn
                        have x6 := x5.kp hk (by simp; omega)
                        refine hK.out _ _ ⟨hHeld.1.kp hk (by simp; omega), hHeld.2.1.kp hk (by simp; omega), hHeld.2.2.1.kp hk (by simp; omega), hHeld.2.2.2.kp hk (by simp; omega)⟩ (fun hHeld => ?_)
                        clear hK K hk hn hC5 y5 x5
                        try simp only [List.getElem_toArray]
                        try simp only [List.getElem_cons_succ]
                        try simp only [List.getElem_cons_zero]
                        try simp only [Act.put]
                        try simp only [List.setIfInBounds_toArray]
                        try simp only [List.set_cons_succ]
                        try simp only [List.set_cons_zero]
                        refine wpAnyH_done (by kernel_rfl) ?_ _
                        go_wp2_with fail
                        go_meet
                        exact ⟨xp, yp, rfl, rfl, hHeld.1, hHeld.2.1, hHeld.2.2.1, hHeld.2.2.2, x6, y6, hC6⟩
                      · rw [if_pos (by rfl)]
                        refine wp_alloc_any zeroPl rfl ?_
                        intro xp u25 x3 hb xl xt
                        have yxn : yp < xp := Nat.lt_of_lt_of_le y2.lt xl
                        have xg := Nat.le_trans hC2.size xl
                        have hC3 := hC2.trans (hb.mono hC2.size)
                        have y3 := y2.below hb
                        refine hK.out _ _ ⟨hHeld.1.below hb, hHeld.2.1.below hb, hHeld.2.2.1.below hb, hHeld.2.2.2.below hb⟩ (fun hHeld => ?_)
                        clear hK K hb hC2 y2
                        try simp only [List.getElem_toArray]
                        try simp only [List.getElem_cons_succ]
                        try simp only [List.getElem_cons_zero]
                        try simp only [Act.put]
                        try simp only [List.setIfInBounds_toArray]
                        try simp only [List.set_cons_succ]
                        try simp only [List.set_cons_zero]
                        refine wpAnyH_ready (rs := [5]) (by kernel_rfl) (by simp) ?_
                        refine AllReadyH.cons rfl (fun K hK => ?_) (AllReadyH.nil)
                        go_simp
                        go_wp2_with (refine (pB _).mono ?_; rintro r u26 ⟨rfl, hb⟩)
                        have hC4 := hC3.trans (hb.mono hC3.size)
                        have y4 := y3.below hb
                        have x4 := x3.below hb
                        refine hK.out _ _ ⟨hHeld.1.below hb, hHeld.2.1.below hb, hHeld.2.2.1.below hb, hHeld.2.2.2.below hb⟩ (fun hHeld => ?_)
                        clear hK K hb hC3 y3 x3
                        refine wpAnyH_ready (rs := [8]) (by kernel_rfl) (by simp) ?_
                        refine AllReadyH.cons rfl (fun K hK => ?_) (AllReadyH.nil)
                        rw [if_pos (by rfl)]
                        refine wp_store_all 27 _ _ rfl (cells := A.arr) x4 rfl rfl A.size rfl A.arr_one ?_
                        intro u27 hn hk
                        have hC5 := hC4.trans (hk.below (by simp; omega) hC4.size)
                        have y5 := y4.kp hk (by simp; omega)
                        have x5 := hn
                        refine hK.out _ _ ⟨hHeld.1.kp hk (by simp; omega), hHeld.2.1.kp hk (by simp; omega), hHeld.2.2.1.kp hk (by simp; omega), hHeld.2.2.2.kp hk (by simp; omega)⟩ (fun hHeld => ?_)
                        clear hK K hk hn hC4 y4 x4
                        try simp only [List.getElem_toArray]
                        try simp only [List.getElem_cons_succ]
                        try simp only [List.getElem_cons_zero]
                        try simp only [Act.put]
                        try simp only [List.setIfInBounds_toArray]
                        try simp only [List.set_cons_succ]
                        try simp only [List.set_cons_zero]
                        refine wpAnyH_ready (rs := [9]) (by kernel_rfl) (by simp) ?_
                        refine AllReadyH.cons rfl (fun K hK => ?_) (AllReadyH.nil)
                        rw [if_pos (by rfl)]
                        refine wp_store_all 27 _ _ rfl (cells := B.arr) y5 rfl rfl B.size rfl B.arr_one ?_
                        intro u28 hn hk
                        have hC6 := hC5.trans (hk.below (by simp; omega) hC5.size)
                        have y6 := hn
                        have x6 := x5.kp hk (by simp; omega)
                        refine hK.out _ _ ⟨hHeld.1.kp hk (by simp; omega), hHeld.2.1.kp hk (by simp; omega), hHeld.2.2.1.kp hk (by simp; omega), hHeld.2.2.2.kp hk (by simp; omega)⟩ (fun hHeld => ?_)
                        clear hK K hk hn hC5 y5 x5
                        try simp only [List.getElem_toArray]
                        try simp only [List.getElem_cons_succ]
                        try simp only [List.getElem_cons_zero]
                        try simp only [Act.put]
                        try simp only [List.setIfInBounds_toArray]
                        try simp only [List.set_cons_succ]
                        try simp only [List.set_cons_zero]
                        refine wpAnyH_done (by kernel_rfl) ?_ _
                        go_wp2_with fail
                        go_meet
                        exact ⟨xp, yp, rfl, rfl, hHeld.1, hHeld.2.1, hHeld.2.2.1, hHeld.2.2.2, x6, y6, hC6⟩
                  · rw [if_pos (by rfl)]
                    refine wp_alloc_any zeroPl rfl ?_
                    intro xp u29 x1 hb xl xt
                    have xg := Nat.le_trans hC0.size xl
                    have hC1 := hC0.trans (hb.mono hC0.size)
                    refine hK.out _ _ ⟨hHeld.1.below hb, hHeld.2.1.below hb, hHeld.2.2.1.below hb, hHeld.2.2.2.below hb⟩ (fun hHeld => ?_)
                    clear hK K hb hC0
                    try simp only [List.getElem_toArray]
                    try simp only [List.getElem_cons_succ]
                    try simp only [List.getElem_cons_zero]
                    try simp only [Act.put]
                    try simp only [List.setIfInBounds_toArray]
                    try simp only [List.set_cons_succ]
                    try simp only [List.set_cons_zero]
                    refine wpAnyH_ready (rs := [2, 7]) (by kernel_rfl) (by simp) ?_
                    refine AllReadyH.cons rfl (fun K hK => ?_) (AllReadyH.cons rfl (fun K hK => ?_) (AllReadyH.nil))
                    · go_simp
                      go_wp2_with (refine (pA _).mono ?_; rintro r u30 ⟨rfl, hb⟩)
                      have hC2 := hC1.trans (hb.mono hC1.size)
                      have x2 := x1.below hb
                      refine hK.out _ _ ⟨hHeld.1.below hb, hHeld.2.1.below hb, hHeld.2.2.1.below hb, hHeld.2.2.2.below hb⟩ (fun hHeld => ?_)
                      clear hK K hb hC1 x1
                      refine wpAnyH_ready (rs := [5, 7]) (by kernel_rfl) (by simp) ?_
                      refine AllReadyH.cons rfl (fun K hK => ?_) (AllReadyH.cons rfl (fun K hK => ?_) (AllReadyH.nil))
                      · go_simp
                        go_wp2_with (refine (pB _).mono ?_; rintro r u31 ⟨rfl, hb⟩)
                        have hC3 := hC2.trans (hb.mono hC2.size)
                        have x3 := x2.below hb
                        refine hK.out _ _ ⟨hHeld.1.below hb, hHeld.2.1.below hb, hHeld.2.2.1.below hb, hHeld.2.2.2.below hb⟩ (fun hHeld => ?_)
                        clear hK K hb hC2 x2
                        refine wpAnyH_ready (rs := [7]) (by kernel_rfl) (by simp) ?_
                        refine AllReadyH.cons rfl (fun K hK => ?_) (AllReadyH.nil)
                        rw [if_pos (by rfl)]
                        refine wp_alloc_any zeroPl rfl ?_
                        intro yp u32 y4 hb yl yt
                        have xyn : xp < yp := Nat.lt_of_lt_of_le x3.lt yl
                        have yg := Nat.le_trans hC3.size yl
                        have hC4 := hC3.trans (hb.mono hC3.size)
                        have x4 := x3.below hb
                        refine hK.out _ _ ⟨hHeld.1.below hb, hHeld.2.1.below hb, hHeld.2.2.1.below hb, hHeld.2.2.2.below hb⟩ (fun hHeld => ?_)
                        clear hK K hb hC3 x3
                        try simp only [List.getElem_toArray]
                        try simp only [List.getElem_cons_succ]
                        try simp only [List.getElem_cons_zero]
                        try simp only [Act.put]
                        try simp only [List.setIfInBounds_toArray]
                        try simp only [List.set_cons_succ]
                        try simp only [List.set_cons_zero]
                        refine wpAnyH_ready (rs := [8]) (by kernel_rfl) (by simp) ?_
                        refine AllReadyH.cons rfl (fun K hK => ?_) (AllReadyH.nil)
                        rw [if_pos (by rfl)]
                        refine wp_store_all 27 _ _ rfl (cells := A.arr) x4 rfl rfl A.size rfl A.arr_one ?_
                        intro u33 hn hk
                        have hC5 := hC4.trans (hk.below (by simp; omega) hC4.size)
                        have x5 := hn
                        have y5 := y4.kp hk (by simp; omega)
                        refine hK.out _ _ ⟨hHeld.1.kp hk (by simp; omega), hHeld.2.1.kp hk (by simp; omega), hHeld.2.2.1.kp hk (by simp; omega), hHeld.2.2.2.kp hk (by simp; omega)⟩ (fun hHeld => ?_)
                        clear hK K hk hn hC4 x4 y4
                        try simp only [List.getElem_toArray]
                        try simp only [List.getElem_cons_succ]
                        try simp only [List.getElem_cons_zero]
                        try simp only [Act.put]
                        try simp only [List.setIfInBounds_toArray]
                        try simp only [List.set_cons_succ]
                        try simp only [List.set_cons_zero]
                        refine wpAnyH_ready (rs := [9]) (by kernel_rfl) (by simp) ?_
                        refine AllReadyH.cons rfl (fun K hK => ?_) (AllReadyH.nil)
                        rw [if_pos (by rfl)]
                        refine wp_store_all 27 _ _ rfl (cells := B.arr) y5 rfl rfl B.size rfl B.arr_one ?_
                        intro u34 hn hk
                        have hC6 := hC5.trans (hk.below (by simp; omega) hC5.size)
                        have x6 := x5.kp hk (by simp; omega)
                        have y6 := hn
                        refine hK.out _ _ ⟨hHeld.1.kp hk (by simp; omega), hHeld.2.1.kp hk (by simp; omega), hHeld.2.2.1.kp hk (by simp; omega), hHeld.2.2.2.kp hk (by simp; omega)⟩ (fun hHeld => ?_)
                        clear hK K hk hn hC5 x5 y5
                        try simp only [List.getElem_toArray]
                        try simp only [List.getElem_cons_succ]
                        try simp only [List.getElem_cons_zero]
                        try simp only [Act.put]
                        try simp only [List.setIfInBounds_toArray]
                        try simp only [List.set_cons_succ]
                        try simp only [List.set_cons_zero]
                        refine wpAnyH_done (by kernel_rfl) ?_ _
                        go_wp2_with fail
                        go_meet
                        exact ⟨xp, yp, rfl, rfl, hHeld.1, hHeld.2.1, hHeld.2.2.1, hHeld.2.2.2, x6, y6, hC6⟩
                      · rw [if_pos (by rfl)]
                        refine wp_alloc_any zeroPl rfl ?_
                        intro yp u35 y3 hb yl yt
                        have xyn : xp < yp := Nat.lt_of_lt_of_le x2.lt yl
                        have yg := Nat.le_trans hC2.size yl
                        have hC3 := hC2.trans (hb.mono hC2.size)
                        have x3 := x2.below hb
                        refine hK.out _ _ ⟨hHeld.1.below hb, hHeld.2.1.below hb, hHeld.2.2.1.below hb, hHeld.2.2.2.below hb⟩ (fun hHeld => ?_)
                        clear hK K hb hC2 x2
                        try simp only [List.getElem_toArray]
                        try simp only [List.getElem_cons_succ]
                        try simp only [List.getElem_cons_zero]
                        try simp only [Act.put]
                        try simp only [List.setIfInBounds_toArray]
                        try simp only [List.set_cons_succ]
                        try simp only [List.set_cons_zero]
                        refine wpAnyH_ready (rs := [5]) (by kernel_rfl) (by simp) ?_
                        refine AllReadyH.cons rfl (fun K hK => ?_) (AllReadyH.nil)
                        go_simp
                        go_wp2_with (refine (pB _).mono ?_; rintro r u36 ⟨rfl, hb⟩)
                        have hC4 := hC3.trans (hb.mono hC3.size)
                        have x4 := x3.below hb
                        have y4 := y3.below hb
                        refine hK.out _ _ ⟨hHeld.1.below hb, hHeld.2.1.below hb, hHeld.2.2.1.below hb, hHeld.2.2.2.below hb⟩ (fun hHeld => ?_)
                        clear hK K hb hC3 x3 y3
                        refine wpAnyH_ready (rs := [8]) (by kernel_rfl) (by simp) ?_
                        refine AllReadyH.cons rfl (fun K hK => ?_) (AllReadyH.nil)
                        rw [if_pos (by rfl)]
                        refine wp_store_all 27 _ _ rfl (cells := A.arr) x4 rfl rfl A.size rfl A.arr_one ?_
                        intro u37 hn hk
                        have hC5 := hC4.trans (hk.below (by simp; omega) hC4.size)
                        have x5 := hn
                        have y5 := y4.kp hk (by simp; omega)
                        refine hK.out _ _ ⟨hHeld.1.kp hk (by simp; omega), hHeld.2.1.kp hk (by simp; omega), hHeld.2.2.1.kp hk (by simp; omega), hHeld.2.2.2.kp hk (by simp; omega)⟩ (fun hHeld => ?_)
                        clear hK K hk hn hC4 x4 y4
                        try simp only [List.getElem_toArray]
                        try simp only [List.getElem_cons_succ]
                        try simp only [List.getElem_cons_zero]
                        try simp only [Act.put]
                        try simp only [List.setIfInBounds_toArray]
                        try simp only [List.set_cons_succ]
                        try simp only [List.set_cons_zero]
                        refine wpAnyH_ready (rs := [9]) (by kernel_rfl) (by simp) ?_
                        refine AllReadyH.cons rfl (fun K hK => ?_) (AllReadyH.nil)
                        rw [if_pos (by rfl)]
                        refine wp_store_all 27 _ _ rfl (cells := B.arr) y5 rfl rfl B.size rfl B.arr_one ?_
                        intro u38 hn hk
                        have hC6 := hC5.trans (hk.below (by simp; omega) hC5.size)
                        have x6 := x5.kp hk (by simp; omega)
                        have y6 := hn
                        refine hK.out _ _ ⟨hHeld.1.kp hk (by simp; omega), hHeld.2.1.kp hk (by simp; omega), hHeld.2.2.1.kp hk (by simp; omega), hHeld.2.2.2.kp hk (by simp; omega)⟩ (fun hHeld => ?_)
                        clear hK K hk hn hC5 x5 y5
                        try simp only [List.getElem_toArray]
                        try simp only [List.getElem_cons_succ]
                        try simp only [List.getElem_cons_zero]
                        try simp only [Act.put]
                        try simp only [List.setIfInBounds_toArray]
                        try simp only [List.set_cons_succ]
                        try simp only [List.set_cons_zero]
                        refine wpAnyH_done (by kernel_rfl) ?_ _
                        go_wp2_with fail
                        go_meet
                        exact ⟨xp, yp, rfl, rfl, hHeld.1, hHeld.2.1, hHeld.2.2.1, hHeld.2.2.2, x6, y6, hC6⟩
                    · rw [if_pos (by rfl)]
                      refine wp_alloc_any zeroPl rfl ?_
                      intro yp u39 y2 hb yl yt
                      have xyn : xp < yp := Nat.lt_of_lt_of_le x1.lt yl
                      have yg := Nat.le_trans hC1.size yl
                      have hC2 := hC1.trans (hb.mono hC1.size)
                      have x2 := x1.below hb
                      refine hK.out _ _ ⟨hHeld.1.below hb, hHeld.2.1.below hb, hHeld.2.2.1.below hb, hHeld.2.2.2.below hb⟩ (fun hHeld => ?_)
                      clear hK K hb hC1 x1
                      try simp only [List.getElem_toArray]
                      try simp only [List.getElem_cons_succ]
                      try simp only [List.getElem_cons_zero]
                      try simp only [Act.put]
                      try simp only [List.setIfInBounds_toArray]
                      try simp only [List.set_cons_succ]
                      try simp only [List.set_cons_zero]
                      refine wpAnyH_ready (rs := [2]) (by kernel_rfl) (by simp) ?_
                      refine AllReadyH.cons rfl (fun K hK => ?_) (AllReadyH.nil)
                      go_simp
                      go_wp2_with (refine (pA _).mono ?_; rintro r u40 ⟨rfl, hb⟩)
                      have hC3 := hC2.trans (hb.mono hC2.size)
                      have x3 := x2.below hb
                      have y3 := y2.below hb
                      refine hK.out _ _ ⟨hHeld.1.below hb, hHeld.2.1.below hb, hHeld.2.2.1.below hb, hHeld.2.2.2.below hb⟩ (fun hHeld => ?_)
                      clear hK K hb hC2 x2 y2
                      refine wpAnyH_ready (rs := [5]) (by kernel_rfl) (by simp) ?_
                      refine AllReadyH.cons rfl (fun K hK => ?_) (AllReadyH.nil)
                      go_simp
                      go_wp2_with (refine (pB _).mono ?_; rintro r u41 ⟨rfl, hb⟩)
                      have hC4 := hC3.trans (hb.mono hC3.size)
                      have x4 := x3.below hb
                      have y4 := y3.below hb
                      refine hK.out _ _ ⟨hHeld.1.below hb, hHeld.2.1.below hb, hHeld.2.2.1.below hb, hHeld.2.2.2.below hb⟩ (fun hHeld => ?_)
                      clear hK K hb hC3 x3 y3
                      refine wpAnyH_ready (rs := [8]) (by kernel_rfl) (by simp) ?_
                      refine AllReadyH.cons rfl (fun K hK => ?_) (AllReadyH.nil)
                      rw [if_pos (by rfl)]
                      refine wp_store_all 27 _ _ rfl (cells := A.arr) x4 rfl rfl A.size rfl A.arr_one ?_
                      intro u42 hn hk
                      have hC5 := hC4.trans (hk.below (by simp; omega) hC4.size)
                      have x5 := hn
                      have y5 := y4.kp hk (by simp; omega)
                      refine hK.out _ _ ⟨hHeld.1.kp hk (by simp; omega), hHeld.2.1.kp hk (by simp; omega), hHeld.2.2.1.kp hk (by simp; omega), hHeld.2.2.2.kp hk (by simp; omega)⟩ (fun hHeld => ?_)
                      clear hK K hk hn hC4 x4 y4
                      try simp only [List.getElem_toArray]
                      try simp only [List.getElem_cons_succ]
                      try simp only [List.getElem_cons_zero]
                      try simp only [Act.put]
                      try simp only [List.setIfInBounds_toArray]
                      try simp only [List.set_cons_succ]
                      try simp only [List.set_cons_zero]
                      refine wpAnyH_ready (rs := [9]) (by kernel_rfl) (by simp) ?_
                      refine AllReadyH.cons rfl (fun K hK => ?_) (AllReadyH.nil)
                      rw [if_pos (by rfl)]
                      refine wp_store_all 27 _ _ rfl (cells := B.arr) y5 rfl rfl B.size rfl B.arr_one ?_
                      intro u43 hn hk
                      have hC6 := hC5.trans (hk.below (by simp; omega) hC5.size)
                      have x6 := x5.kp hk (by simp; omega)
                      have y6 := hn
                      refine hK.out _ _ ⟨hHeld.1.kp hk (by simp; omega), hHeld.2.1.kp hk (by simp; omega), hHeld.2.2.1.kp hk (by simp; omega), hHeld.2.2.2.kp hk (by simp; omega)⟩ (fun hHeld => ?_)
                      clear hK K hk hn hC5 x5 y5
                      try simp only [List.getElem_toArray]
                      try simp only [List.getElem_cons_succ]
                      try simp only [List.getElem_cons_zero]
                      try simp only [Act.put]
                      try simp only [List.setIfInBounds_toArray]
                      try simp only [List.set_cons_succ]
                      try simp only [List.set_cons_zero]
                      refine wpAnyH_done (by kernel_rfl) ?_ _
                      go_wp2_with fail
                      go_meet
                      exact ⟨xp, yp, rfl, rfl, hHeld.1, hHeld.2.1, hHeld.2.2.1, hHeld.2.2.2, x6, y6, hC6⟩
                  · rw [if_pos (by rfl)]
                    refine wp_alloc_any zeroPl rfl ?_
                    intro yp u44 y1 hb yl yt
                    have yg := Nat.le_trans hC0.size yl
                    have hC1 := hC0.trans (hb.mono hC0.size)
                    refine hK.out _ _ ⟨hHeld.1.below hb, hHeld.2.1.below hb, hHeld.2.2.1.below hb, hHeld.2.2.2.below hb⟩ (fun hHeld => ?_)
                    clear hK K hb hC0
                    try simp only [List.getElem_toArray]
                    try simp only [List.getElem_cons_succ]
                    try simp only [List.getElem_cons_zero]
                    try simp only [Act.put]
                    try simp only [List.setIfInBounds_toArray]
                    try simp only [List.set_cons_succ]
                    try simp only [List.set_cons_zero]
                    refine wpAnyH_ready (rs := [2, 6]) (by kernel_rfl) (by simp) ?_
                    refine AllReadyH.cons rfl (fun K hK => ?_) (AllReadyH.cons rfl (fun K hK => ?_) (AllReadyH.nil))
                    · go_simp
                      go_wp2_with (refine (pA _).mono ?_; rintro r u45 ⟨rfl, hb⟩)
                      have hC2 := hC1.trans (hb.mono hC1.size)
                      have y2 := y1.below hb
                      refine hK.out _ _ ⟨hHeld.1.below hb, hHeld.2.1.below hb, hHeld.2.2.1.below hb, hHeld.2.2.2.below hb⟩ (fun hHeld => ?_)
                      clear hK K hb hC1 y1
                      refine wpAnyH_ready (rs := [5, 6]) (by kernel_rfl) (by simp) ?_
                      refine AllReadyH.cons rfl (fun K hK => ?_) (AllReadyH.cons rfl (fun K hK => ?_) (AllReadyH.nil))
                      · go_simp
                        go_wp2_with (refine (pB _).mono ?_; rintro r u46 ⟨rfl, hb⟩)
                        have hC3 := hC2.trans (hb.mono hC2.size)
                        have y3 := y2.below hb
                        refine hK.out _ _ ⟨hHeld.1.below hb, hHeld.2.1.below hb, hHeld.2.2.1.below hb, hHeld.2.2.2.below hb⟩ (fun hHeld => ?_)
                        clear hK K hb hC2 y2
                        refine wpAnyH_ready (rs := [6]) (by kernel_rfl) (by simp) ?_
                        refine AllReadyH.cons rfl (fun K hK => ?_) (AllReadyH.nil)
                        rw [if_pos (by rfl)]
                        refine wp_alloc_any zeroPl rfl ?_
                        intro xp u47 x4 hb xl xt
                        have yxn : yp < xp := Nat.lt_of_lt_of_le y3.lt xl
                        have xg := Nat.le_trans hC3.size xl
                        have hC4 := hC3.trans (hb.mono hC3.size)
                        have y4 := y3.below hb
                        refine hK.out _ _ ⟨hHeld.1.below hb, hHeld.2.1.below hb, hHeld.2.2.1.below hb, hHeld.2.2.2.below hb⟩ (fun hHeld => ?_)
                        clear hK K hb hC3 y3
                        try simp only [List.getElem_toArray]
                        try simp only [List.getElem_cons_succ]
                        try simp only [List.getElem_cons_zero]
                        try simp only [Act.put]
                        try simp only [List.setIfInBounds_toArray]
                        try simp only [List.set_cons_succ]
                        try simp only [List.set_cons_zero]
                        refine wpAnyH_ready (rs := [8]) (by kernel_rfl) (by simp) ?_
                        refine AllReadyH.cons rfl (fun K hK => ?_) (AllReadyH.nil)
                        rw [if_pos (by rfl)]
                        refine wp_store_all 27 _ _ rfl (cells := A.arr) x4 rfl rfl A.size rfl A.arr_one ?_
                        intro u48 hn hk
                        have hC5 := hC4.trans (hk.below (by simp; omega) hC4.size)
                        have y5 := y4.kp hk (by simp; omega)
                        have x5 := hn
                        refine hK.out _ _ ⟨hHeld.1.kp hk (by simp; omega), hHeld.2.1.kp hk (by simp; omega), hHeld.2.2.1.kp hk (by simp; omega), hHeld.2.2.2.kp hk (by simp; omega)⟩ (fun hHeld => ?_)
                        clear hK K hk hn hC4 y4 x4
                        try simp only [List.getElem_toArray]
                        try simp only [List.getElem_cons_succ]
                        try simp only [List.getElem_cons_zero]
                        try simp only [Act.put]
                        try simp only [List.setIfInBounds_toArray]
                        try simp only [List.set_cons_succ]
                        try simp only [List.set_cons_zero]
                        refine wpAnyH_ready (rs := [9]) (by kernel_rfl) (by simp) ?_
                        refine AllReadyH.cons rfl (fun K hK => ?_) (AllReadyH.nil)
                        rw [if_pos (by rfl)]
                        refine wp_store_all 27 _ _ rfl (cells := B.arr) y5 rfl rfl B.size rfl B.arr_one ?_
                        intro u49 hn hk
                        have hC6 := hC5.trans (hk.below (by simp; omega) hC5.size)
                        have y6 := hn
                        have x6 := x5.kp hk (by simp; omega)
                        refine hK.out _ _ ⟨hHeld.1.kp hk (by simp; omega), hHeld.2.1.kp hk (by simp; omega), hHeld.2.2.1.kp hk (by simp; omega), hHeld.2.2.2.kp hk (by simp; omega)⟩ (fun hHeld => ?_)
                        clear hK K hk hn hC5 y5 x5
                        try simp only [List.getElem_toArray]
                        try simp only [List.getElem_cons_succ]
                        try simp only [List.getElem_cons_zero]
                        try simp only [Act.put]
                        try simp only [List.setIfInBounds_toArray]
                        try simp only [List.set_cons_succ]
                        try simp only [List.set_cons_zero]
                        refine wpAnyH_done (by kernel_rfl) ?_ _
                        go_wp2_with fail
                        go_meet
                        exact ⟨xp, yp, rfl, rfl, hHeld.1, hHeld.2.1, hHeld.2.2.1, hHeld.2.2.2, x6, y6, hC6⟩
                      · rw [if_pos (by rfl)]
                        refine wp_alloc_any zeroPl rfl ?_
                        intro xp u50 x3 hb xl xt
                        have yxn : yp < xp := Nat.lt_of_lt_of_le y2.lt xl
                        have xg := Nat.le_trans hC2.size xl
                        have hC3 := hC2.trans (hb.mono hC2.size)
                        have y3 := y2.below hb
                        refine hK.out _ _ ⟨hHeld.1.below hb, hHeld.2.1.below hb, hHeld.2.2.1.below hb, hHeld.2.2.2.below hb⟩ (fun hHeld => ?_)
                        clear hK K hb hC2 y2
                        try simp only [List.getElem_toArray]
                        try simp only [List.getElem_cons_succ]
                        try simp only [List.getElem_cons_zero]
                        try simp only [Act.put]
                        try simp only [List.setIfInBounds_toArray]
                        try simp only [List.set_cons_succ]
                        try simp only [List.set_cons_zero]
                        refine wpAnyH_ready (rs := [5]) (by kernel_rfl) (by simp) ?_
                        refine AllReadyH.cons rfl (fun K hK => ?_) (AllReadyH.nil)
                        go_simp
                        go_wp2_with (refine (pB _).mono ?_; rintro r u51 ⟨rfl, hb⟩)
                        have hC4 := hC3.trans (hb.mono hC3.size)
                        have y4 := y3.below hb
                        have x4 := x3.below hb
                        refine hK.out _ _ ⟨hHeld.1.below hb, hHeld.2.1.below hb, hHeld.2.2.1.below hb, hHeld.2.2.2.below hb⟩ (fun hHeld => ?_)
                        clear hK K hb hC3 y3 x3
                        refine wpAnyH_ready (rs := [8]) (by kernel_rfl) (by simp) ?_
                        refine AllReadyH.cons rfl (fun K hK => ?_) (AllReadyH.nil)
                        rw [if_pos (by rfl)]
                        refine wp_store_all 27 _ _ rfl (cells := A.arr) x4 rfl rfl A.size rfl A.arr_one ?_
                        intro u52 hn hk
                        have hC5 := hC4.trans (hk.below (by simp; omega) hC4.size)
                        have y5 := y4.kp hk (by simp; omega)
                        have x5 := hn
                        refine hK.out _ _ ⟨hHeld.1.kp hk (by simp; omega), hHeld.2.1.kp hk (by simp; omega), hHeld.2.2.1.kp hk (by simp; omega), hHeld.2.2.2.kp hk (by simp; omega)⟩ (fun hHeld => ?_)
                        clear hK K hk hn hC4 y4 x4
                        try simp only [List.getElem_toArray]
                        try simp only [List.getElem_cons_succ]
                        try simp only [List.getElem_cons_zero]
                        try simp only [Act.put]
                        try simp only [List.setIfInBounds_toArray]
                        try simp only [List.set_cons_succ]
                        try simp only [List.set_cons_zero]
                        refine wpAnyH_ready (rs := [9]) (by kernel_rfl) (by simp) ?_
                        refine AllReadyH.cons rfl (fun K hK => ?_) (AllReadyH.nil)
                        rw [if_pos (by rfl)]
                        refine wp_store_all 27 _ _ rfl (cells := B.arr) y5 rfl rfl B.size rfl B.arr_one ?_
                        intro u53 hn hk
                        have hC6 := hC5.trans (hk.below (by simp; omega) hC5.size)
                        have y6 := hn
                        have x6 := x5.kp hk (by simp; omega)
                        refine hK.out _ _ ⟨hHeld.1.kp hk (by simp; omega), hHeld.2.1.kp hk (by simp; omega), hHeld.2.2.1.kp hk (by simp; omega), hHeld.2.2.2.kp hk (by simp; omega)⟩ (fun hHeld => ?_)
                        clear hK K hk hn hC5 y5 x5
                        try simp only [List.getElem_toArray]
                        try simp only [List.getElem_cons_succ]
                        try simp only [List.getElem_cons_zero]
                        try simp only [Act.put]
                        try simp only [List.setIfInBounds_toArray]
                        try simp only [List.set_cons_succ]
                        try simp only [List.set_cons_zero]
                        refine wpAnyH_done (by kernel_rfl) ?_ _
                        go_wp2_with fail
                        go_meet
                        exact ⟨xp, yp, rfl, rfl, hHeld.1, hHeld.2.1, hHeld.2.2.1, hHeld.2.2.2, x6, y6, hC6⟩
                    · rw [if_pos (by rfl)]
                      refine wp_alloc_any zeroPl rfl ?_
                      intro xp u54 x2 hb xl xt
                      have yxn : yp < xp := Nat.lt_of_lt_of_le y1.lt xl
                      have xg := Nat.le_trans hC1.size xl
                      have hC2 := hC1.trans (hb.mono hC1.size)
                      have y2 := y1.below hb
                      refine hK.out _ _ ⟨hHeld.1.below hb, hHeld.2.1.below hb, hHeld.2.2.1.below hb, hHeld.2.2.2.below hb⟩ (fun hHeld => ?_)
                      clear hK K hb hC1 y1
                      try simp only [List.getElem_toArray]
                      try simp only [List.getElem_cons_succ]
                      try simp only [List.getElem_cons_zero]
                      try simp only [Act.put]
                      try simp only [List.setIfInBounds_toArray]
                      try simp only [List.set_cons_succ]
                      try simp only [List.set_cons_zero]
                      refine wpAnyH_ready (rs := [2]) (by kernel_rfl) (by simp) ?_
                      refine AllReadyH.cons rfl (fun K hK => ?_) (AllReadyH.nil)
                      go_simp
                      go_wp2_with (refine (pA _).mono ?_; rintro r u55 ⟨rfl, hb⟩)
                      have hC3 := hC2.trans (hb.mono hC2.size)
                      have y3 := y2.below hb
                      have x3 := x2.below hb
                      refine hK.out _ _ ⟨hHeld.1.below hb, hHeld.2.1.below hb, hHeld.2.2.1.below hb, hHeld.2.2.2.below hb⟩ (fun hHeld => ?_)
                      clear hK K hb hC2 y2 x2
                      refine wpAnyH_ready (rs := [5]) (by kernel_rfl) (by simp) ?_
                      refine AllReadyH.cons rfl (fun K hK => ?_) (AllReadyH.nil)
                      go_simp
                      go_wp2_with (refine (pB _).mono ?_; rintro r u56 ⟨rfl, hb⟩)
                      have hC4 := hC3.trans (hb.mono hC3.size)
                      have y4 := y3.below hb
                      have x4 := x3.below hb
                      refine hK.out _ _ ⟨hHeld.1.below hb, hHeld.2.1.below hb, hHeld.2.2.1.below hb, hHeld.2.2.2.below hb⟩ (fun hHeld => ?_)
                      clear hK K hb hC3 y3 x3
                      refine wpAnyH_ready (rs := [8]) (by kernel_rfl) (by simp) ?_
                      refine AllReadyH.cons rfl (fun K hK => ?_) (AllReadyH.nil)
                      rw [if_pos (by rfl)]
                      refine wp_store_all 27 _ _ rfl (cells := A.arr) x4 rfl rfl A.size rfl A.arr_one ?_
                      intro u57 hn hk
                      have hC5 := hC4.trans (hk.below (by simp; omega) hC4.size)
                      have y5 := y4.kp hk (by simp; omega)
                      have x5 := hn
                      refine hK.out _ _ ⟨hHeld.1.kp hk (by simp; omega), hHeld.2.1.kp hk (by simp; omega), hHeld.2.2.1.kp hk (by simp; omega), hHeld.2.2.2.kp hk (by simp; omega)⟩ (fun hHeld => ?_)
                      clear hK K hk hn hC4 y4 x4
                      try simp only [List.getElem_toArray]
                      try simp only [List.getElem_cons_succ]
                      try simp only [List.getElem_cons_zero]
                      try simp only [Act.put]
                      try simp only [List.setIfInBounds_toArray]
                      try simp only [List.set_cons_succ]
                      try simp only [List.set_cons_zero]
                      refine wpAnyH_ready (rs := [9]) (by kernel_rfl) (by simp) ?_
                      refine AllReadyH.cons rfl (fun K hK => ?_) (AllReadyH.nil)
                      rw [if_pos (by rfl)]
                      refine wp_store_all 27 _ _ rfl (cells := B.arr) y5 rfl rfl B.size rfl B.arr_one ?_
                      intro u58 hn hk
                      have hC6 := hC5.trans (hk.below (by simp; omega) hC5.size)
                      have y6 := hn
                      have x6 := x5.kp hk (by simp; omega)
                      refine hK.out _ _ ⟨hHeld.1.kp hk (by simp; omega), hHeld.2.1.kp hk (by simp; omega), hHeld.2.2.1.kp hk (by simp; omega), hHeld.2.2.2.kp hk (by simp; omega)⟩ (fun hHeld => ?_)
                      clear hK K hk hn hC5 y5 x5
                      try simp only [List.getElem_toArray]
                      try simp only [List.getElem_cons_succ]
                      try simp only [List.getElem_cons_zero]
                      try simp only [Act.put]
                      try simp only [List.setIfInBounds_toArray]
                      try simp only [List.set_cons_succ]
                      try simp only [List.set_cons_zero]
                      refine wpAnyH_done (by kernel_rfl) ?_ _
                      go_wp2_with fail
                      go_meet
                      exact ⟨xp, yp, rfl, rfl, hHeld.1, hHeld.2.1, hHeld.2.2.1, hHeld.2.2.2, x6, y6, hC6⟩
                case rest =>
                  obtain ⟨xp, yp, rfl, rfl, b0, b1, b2, b3, a4, a5, hC⟩ := hcut
                  clear a0 a1 a2 a3 hC0 pA pB hl0 hl1 hl2 hl3
                  rename World => U
                  replace hB := hB.trans (hC.mono hB.size)
                  clear hC
                  have lc := b0.regrown
                  have ld := b1.regrown
                  have lm := b2.regrown
                  have lp := b3.regrown
                  have r0 : ∀ d' os, Calls Try.prog 17 #[.agg (mbc c), .agg (mbc m), .agg p.arr, .int .i64 2] (grow (redrawn U d') os) fun e w'' => e = .returned (.bool u) ∧ ∃ p : Regrown, w'' = grow (redrawn U p.d) p.os := fun d' os => Calls.regrown_of (pS _)
                  have r1 : ∀ d' os, Calls Try.prog 17 #[.agg (mbc d), .agg (mbc m), .agg p.arr, .int .i64 2] (grow (redrawn U d') os) fun e w'' => e = .returned (.bool v) ∧ ∃ p : Regrown, w'' = grow (redrawn U p.d) p.os := fun d' os => Calls.regrown_of (pT _)
                  clear pS pT
                  go_wp2_with fail
                  refine wp_region_quiet_below (by kernel_rfl) (by kernel_rfl) ?_
                  repeat (first
                    | (go_big_quiet_want; refine quiet_load rfl rfl lc Try.underlying24 rfl sizeCt ?_; simp only [Act.put, List.setIfInBounds_toArray, List.set_cons_zero, List.set_cons_succ]; go_big_quiet_on)
                    | (go_big_quiet_want; refine quiet_load rfl rfl ld Try.underlying24 rfl sizeCt ?_; simp only [Act.put, List.setIfInBounds_toArray, List.set_cons_zero, List.set_cons_succ]; go_big_quiet_on)
                    | (go_big_quiet_want; refine quiet_load rfl rfl lm Try.underlying25 rfl sizeMb ?_; simp only [Act.put, List.setIfInBounds_toArray, List.set_cons_zero, List.set_cons_succ]; go_big_quiet_on)
                    | (go_big_quiet_want; refine quiet_load rfl rfl lp Try.underlying27 rfl sizePl ?_; simp only [Act.put, List.setIfInBounds_toArray, List.set_cons_zero, List.set_cons_succ]; go_big_quiet_on)
                    | go_big_quiet_step (first | with_reducible exact r0 _ _ | with_reducible exact r1 _ _))
                  refine wpQuiet_nil ?_
                  intro _ hw'
                  obtain ⟨⟨dq, osq⟩, hw''⟩ := hw'
                  have hb := below_regrown U dq osq
                  subst hw''
                  generalize grow (redrawn U dq) osq = w5 at hb ⊢
                  replace b3 := b3.below hb
                  replace a4 := a4.below hb
                  replace a5 := a5.below hb
                  replace hB := hB.trans (hb.mono hB.size)
                  clear hb
                  clear lc ld lm lp r0 r1 b0 b1 b2
                  have hst : p.arr.setIfInBounds 2 (.int .i64 0) = (Pl.mk p.r p.f 0).arr := rfl
                  have f3 := b3.alloc (.cells p.arr 27)
                  have f4 := a4.alloc (.cells p.arr 27)
                  have f5 := a5.alloc (.cells p.arr 27)
                  have f6 := blk_new w5 p.arr 27
                  have hn4 := a4.lt
                  have hn5 := a5.lt
                  have hF : Below w.heap.size w (w5.alloc (.cells p.arr 27)) := hB.alloc hB.size _
                  have hws : w.heap.size ≤ w5.heap.size := hB.size
                  clear a4 a5 hB
                  go_upto_region 7 with (first | refine load_blk rfl 27 _ rfl b3 rfl Try.underlying27 rfl sizePl ?_ | refine alloc_zero zeroPl rfl rfl ?_ | refine store_new rfl 27 _ _ rfl (cells := p.arr) rfl rfl sizePl rfl p.arr_one ?_)
                  try simp only [Act.put, List.setIfInBounds_toArray, List.set_cons_zero, List.set_cons_succ]
                  generalize w5.heap.size = fp at f6 hn4 hn5 hws ⊢
                  generalize w5.alloc (.cells p.arr 27) = V at f3 f4 f5 f6 hF ⊢
                  clear b3 f3
                  go_upto_region 8 with (refine store_one rfl 3 _ _ rfl (off := 2) (.int .i64 0) f6 rfl rfl rfl rfl sizeI64 (by rw [Pl.arr_size]; omega) ?_; intro V2 a6 k6; rw [hst] at a6; have a4 := f4.kp1 k6 (by omega); have a5 := f5.kp1 k6 (by omega); have hB : Below w.heap.size w V2 := hF.trans (k6.below1 hws hF.size))
                  try simp only [Act.put]
                  clear f4 f5 f6 hF k6 hst hn4 hn5 hws
                  go_wp2_with (first | refine load_blk rfl 27 _ rfl a6 rfl Try.underlying27 rfl sizePl ?_ | refine load_blk rfl 27 _ rfl a4 rfl Try.underlying27 rfl sizePl ?_)
                  refine (pE _).mono ?_
                  rintro r w6 ⟨rfl, hb⟩
                  replace a4 := a4.below hb
                  replace a5 := a5.below hb
                  replace a6 := a6.below hb
                  replace hB := hB.trans (hb.mono hB.size)
                  clear hb pE
                  have hu : (u != u) = false := by simp
                  have hv : (v != v) = false := by simp
                  go_wp2_with (first | refine load_want rfl 27 _ rfl a6 rfl Try.underlying27 rfl sizePl ?_ | refine load_want rfl 27 _ rfl a5 rfl Try.underlying27 rfl sizePl ?_)
                  refine (pF _).mono ?_
                  rintro r w7 ⟨rfl, hb⟩
                  replace a4 := a4.below hb
                  replace a5 := a5.below hb
                  replace a6 := a6.below hb
                  replace hB := hB.trans (hb.mono hB.size)
                  clear hb pF
                  have h := Hh.out
                  clear Hh
                  rcases h with h | h | h
                  · obtain ⟨rfl, h⟩ := h
                    go_wp2_with (first | refine load_blk rfl 27 _ rfl a4 rfl Try.underlying27 rfl sizePl ?_ | refine load_blk rfl 27 _ rfl a5 rfl Try.underlying27 rfl sizePl ?_)
                    refine (pC _).mono ?_
                    rintro r w8 ⟨rfl, hb⟩
                    replace a4 := a4.below hb
                    replace a5 := a5.below hb
                    replace a6 := a6.below hb
                    replace hB := hB.trans (hb.mono hB.size)
                    clear hb pC
                    cases u <;> cases v <;> (try (exact absurd h (by decide)))
                    all_goals
                      clear h
                      go_wp2_with fail
                      go_ret
                      exact ⟨rfl, hB⟩
                  · obtain ⟨rfl, rfl, h⟩ := h
                    go_wp2_with (first | refine load_blk rfl 27 _ rfl a4 rfl Try.underlying27 rfl sizePl ?_ | refine load_blk rfl 27 _ rfl a5 rfl Try.underlying27 rfl sizePl ?_)
                    refine (pC _).mono ?_
                    rintro r w8 ⟨rfl, hb⟩
                    replace a4 := a4.below hb
                    replace a5 := a5.below hb
                    replace a6 := a6.below hb
                    replace hB := hB.trans (hb.mono hB.size)
                    clear hb pC
                    go_wp2_with (first | refine load_want rfl 27 _ rfl a4 rfl Try.underlying27 rfl sizePl ?_ | refine load_want rfl 27 _ rfl a5 rfl Try.underlying27 rfl sizePl ?_)
                    refine (pD _).mono ?_
                    rintro r w9 ⟨rfl, hb⟩
                    replace a4 := a4.below hb
                    replace a5 := a5.below hb
                    replace a6 := a6.below hb
                    replace hB := hB.trans (hb.mono hB.size)
                    clear hb pD
                    cases u <;> cases v <;> (try (exact absurd h (by decide)))
                    all_goals
                      clear h
                      go_wp2_with fail
                      go_ret
                      exact ⟨rfl, hB⟩
                  · obtain ⟨rfl, rfl, rfl, rfl⟩ := h
                    go_wp2_with (first | refine load_blk rfl 27 _ rfl a4 rfl Try.underlying27 rfl sizePl ?_ | refine load_blk rfl 27 _ rfl a5 rfl Try.underlying27 rfl sizePl ?_)
                    refine (pC _).mono ?_
                    rintro r w8 ⟨rfl, hb⟩
                    replace a4 := a4.below hb
                    replace a5 := a5.below hb
                    replace a6 := a6.below hb
                    replace hB := hB.trans (hb.mono hB.size)
                    clear hb pC
                    go_wp2_with (first | refine load_want rfl 27 _ rfl a4 rfl Try.underlying27 rfl sizePl ?_ | refine load_want rfl 27 _ rfl a5 rfl Try.underlying27 rfl sizePl ?_)
                    refine (pD _).mono ?_
                    rintro r w9 ⟨rfl, hb⟩
                    replace a4 := a4.below hb
                    replace a5 := a5.below hb
                    replace a6 := a6.below hb
                    replace hB := hB.trans (hb.mono hB.size)
                    clear hb pD
                    cases u
                    all_goals
                      go_wp2_with (first | refine load_want rfl 27 _ rfl a4 rfl Try.underlying27 rfl sizePl ?_ | refine load_want rfl 27 _ rfl a5 rfl Try.underlying27 rfl sizePl ?_)
                      go_ret
                      exact ⟨rfl, hB⟩

set_option maxRecDepth 100000 in
theorem lifted (os : Os) (started : os.Started) (H : Type) (enc : TypeId × Value → H) :
    ReturnsInHanded {} Try.checked os 6 .any (Rows.roundOrderSpec.pre6 enc Try.prog Try.f6 Rows.roundOrderRow.domain false) (Rows.roundOrderSpec.post enc Try.prog Try.f6 false true false false) := by
  refine returnsInHanded_of_change_sized (C := Try.checked) own started (by kernel_rfl) Try.func6
    (ChangeSpec.witness6 (enc := enc) (C := Try.checked) false ⟨#[], #[.agg (mbc noMb), .agg (mbc noMb), .agg (rpc noMb Pl.zero)], []⟩ 8 (by kernel_rfl) (by kernel_rfl) (by kernel_rfl) (by kernel_rfl)) ?_
  intro W base args ds gs before hval0 hW hcnd hsz0 _
  have hval : ∀ (j : Nat) t v, Try.f6.params[j]? = some t → args[j]? = some v → Value.okWide Try.prog W .any base t v := hval0
  have hsz : (DataW.weightsEach Try.prog (Try.f6.params.toList ++ Rows.roundOrderSpec.plain.varTypes Try.prog) (ds ++ gs)).all (· ≤ reachBytes) = true := hsz0
  have hW' := hW
  obtain ⟨p, q, hA0, hV, rfl, hfz, hnd⟩ := hW
  have hA : DataW.TrodAll enc Try.prog W 0 (fun _ => true) true Try.f6.params.toList args.toList ds p := hA0
  rw [Try.params6] at hA hval hsz

  obtain ⟨v0, vs0, d0, ds0, p0, q0, hargs, rfl, rfl, h0, r0⟩ := trodAll_cons hA
  obtain ⟨v1, vs1, d1, ds1, p1, q1, rfl, rfl, rfl, h1, r1⟩ := trodAll_cons r0
  obtain ⟨v2, vs2, d2, ds2, p2, q2, rfl, rfl, rfl, h2, r2⟩ := trodAll_cons r1
  obtain ⟨rfl, rfl, rfl⟩ := trodAll_nil r2
  obtain rfl : args = #[v0, v1, v2] := by cases args; simp_all
  obtain ⟨rfl, rfl⟩ := trodVars_none hV
  obtain ⟨c0, rfl, kc0⟩ := open_ct (by obtain ⟨cs, h1, _⟩ := (by simpa only [Value.okWide, Try.underlying24] using hval 0 24 v0 rfl rfl : ∃ cs, v0 = .agg cs ∧ _); exact ⟨cs, h1⟩) h0
  obtain ⟨c1, rfl, kc1⟩ := open_ct (by obtain ⟨cs, h1, _⟩ := (by simpa only [Value.okWide, Try.underlying24] using hval 1 24 v1 rfl rfl : ∃ cs, v1 = .agg cs ∧ _); exact ⟨cs, h1⟩) h1
  obtain ⟨x2, y2, rfl, ky2⟩ := open_where (by obtain ⟨cs, h1, _⟩ := okWide_struct Try.underlying44 (hval 2 44 v2 rfl rfl); exact ⟨cs, h1⟩) h2
  have hA2 := hA0
  clear hA0 hval0 hsz0
  simp only [List.append_nil] at hW'
  refine (walk c0 kc0 c1 kc1 x2 y2 ky2 W).mono fun e W' ⟨he, bel⟩ => ?_
  subst he
  exact ⟨_, rfl, _, _, _, [], _, [], hW', trodAll_mk1 (shut_bool Try.underlying4 _), (stays_all laidOut bel (by kernel_rfl) hA2), rfl, bel.frame _, fun h => by cases h⟩

theorem over : Rows.roundOrderRow.holds Try.pinned (OpenSpec.ofChange Rows.roundOrderSpec) :=
  OpenClaim.holds_of_wide 6 Try.f6 rfl rfl rfl rfl rfl rfl rfl ⟨rfl, rfl, rfl, rfl, rfl⟩ rfl rfl rfl rfl rfl (by kernel_rfl) Try.func6 (by kernel_rfl)
    (of_decide_eq_true (by kernel_rfl)) (by unfold Func.isWrapper; first | (rw [if_pos (by decide +kernel)]; kernel_rfl) | (rw [if_neg (by decide +kernel)]; exact ⟨rfl, rfl⟩))
    (fun os started H enc _ => lifted os started H enc)

end Go.Proofs.Ytchkpgncelbhpaa.roundOrder
namespace Go.Proofs.Ytchkpgncelbhpaa

theorem roundOrder_holds : Rows.RoundOrderSaid := roundOrder.over
#print axioms roundOrder_holds

end Go.Proofs.Ytchkpgncelbhpaa
