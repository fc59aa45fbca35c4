/-
  Two packets that differ in their counts alone differ in the bytes from 46 to 77, and in the sum, alone; in Ready alone, in the byte 119: the law PacketFields returns true for every input.
  No condition beyond the form's own.
-/
import Derived.Test.YtmbddjejbmjmfaaRows
import Derived.Test.YtmbddjejbmjmfaaPkFl
import Derived.Test.YtmbddjejbmjmfaaPkIn
import Derived.Deep.CutRange
import Derived.Deep.RegionHeld
import Derived.WalkKit
import Derived.ProofKit
import Derived.OpenShut
import Derived.ShutString
import Derived.SizedLaws
import Derived.ChangeOld
import Derived.Below
namespace Go.Proofs.Ytmbddjejbmjmfaa.packetFields
open Go.Sort Go.ChangeShapes Go.WideShapes Go.ChangeAt Go.RowKit
open Go.ChangeMaps (open_string shut_string)
set_option linter.unusedVariables false
set_option maxRecDepth 10000

theorem own : ownKnob Try.prog.godebug = none := by kernel_rfl
theorem length_bytes (s : ByteArray) : s.data.toList.length = s.size := by rw [Array.length_toList]; rfl

set_option maxHeartbeats 4000000 in
theorem walk_may (P : Pk) (hP : ∀ i, P.n i < 4294967296) (hm : P.may = true) (c : Nat → Nat) (hc : ∀ i, c i < 4294967296) (w : World) : Calls Try.prog 8 #[.agg (pkc P), .agg (rowc c 0)] w fun e w' => e = .returned (.bool true) ∧ Below w.heap.size w w' := by
  have hE := fun w => encode_pk P hP w
  have hQ := fun w => encode_pk (withCount P c) (fits_count P c hP hc) w
  have hR := fun w => encode_pk (withReady P (!P.r)) hP w
  rw [hm, if_pos rfl] at hE
  rw [may_count, hm, if_pos rfl] at hQ
  rw [may_ready, hm, if_pos rfl] at hR
  have sz1 := sealed_size P
  have sz2 := sealed_size (withCount P c)
  have sz3 := sealed_size (withReady P (!P.r))
  have x1 := (sealed_C P).1
  have x2 := (sealed_C (withCount P c)).1
  have x3 := (sealed_C P).2.2
  have x4 := (sealed_C (withCount P c)).2.2
  have x5 := (sealed_R P).1
  have x6a := (sealed_R (withReady P (!P.r))).1
  have x7 := (sealed_R P).2.2
  have x8 := (sealed_R (withReady P (!P.r))).2.2
  have i1 : preC (withCount P c).n = preC P.n := rfl
  have i2 : sufC (withCount P c) = sufC P := rfl
  have i3 : preR (withReady P (!P.r)).n = preR P.n := rfl
  have i4 : sufR (withReady P (!P.r)) = sufR P := rfl
  rw [i1] at x2
  rw [i2] at x4
  rw [i3] at x6a
  rw [i4] at x8
  have hsame := same_counts P hP c hc
  have hne := other_ready P
  have hcnt : ∀ w, (binOp .eql 27 (.agg (rowl P.n 13).toArray) (.agg (rowl c 0).toArray)).run Try.prog w = .ok (.bool (rowSame P.n 13 c 0)) w := eql_counts P.n 13 c 0
  have y1 : ((P.sealed.size : Int) != 641) = false := by rw [sz1]; rfl
  have y2 : (((withCount P c).sealed.size : Int) != 641) = false := by rw [sz2]; rfl
  have y3 : (((withReady P (!P.r)).sealed.size : Int) != 641) = false := by rw [sz3]; rfl
  have r1 : ((ba (preC P.n)).toList == (ba (preC P.n)).toList) = true := by simp
  have r2 : ((ba (sufC P)).toList == (ba (sufC P)).toList) = true := by simp
  have r3 : ((ba (preR P.n)).toList == (ba (preR P.n)).toList) = true := by simp
  have r4 : ((ba (sufR P)).toList == (ba (sufR P)).toList) = true := by simp
  generalize ba (preC P.n) = g1 at x1 x2 r1
  generalize ba (sufC P) = g2 at x3 x4 r2
  generalize ba (preR P.n) = g3 at x5 x6a r3
  generalize ba (sufR P) = g4 at x7 x8 r4
  generalize rowSame P.n 13 c 0 = q at hsame hcnt
  generalize P.sealed = s1 at *
  generalize (withCount P c).sealed = s2 at *
  generalize (withReady P (!P.r)).sealed = s3 at *
  have hqq : (q == q) = true := by simp
  clear i1 i2 i3 i4 hm hP hc
  obtain ⟨wa, hwa⟩ : ∃ wa, w.alloc (.cells (pkc P) 35) = wa := ⟨_, rfl⟩
  have za : wa.heap.size = w.heap.size + 1 := by rw [← hwa]; simp
  obtain ⟨w0, hw0⟩ : ∃ w0, wa.alloc (.cells (rowc c 0) 27) = w0 := ⟨_, rfl⟩
  have B0 : Blk w.heap.size (pkc P) 35 w0 := by rw [← hw0, ← hwa]; exact (blk_new w _ _).alloc _
  have C0 : Blk (w.heap.size + 1) (rowc c 0) 27 w0 := by rw [← za, ← hw0]; exact blk_new wa _ _
  have b0 : Below w.heap.size w w0 := by rw [← hw0, ← hwa]; exact (below_box w _).alloc (by simp) _
  have hsz : (Try.prog.info? 35).map (·.size) = some (pkl P).length := by rw [show (pkl P).length = 145 from pkc_size P]; exact size35
  have hB0 := B0.lt
  have hC0 := C0.lt
  obtain ⟨D, hD⟩ : ∃ D, Hid (w0.drew = D) := ⟨_, rfl⟩
  obtain ⟨W1, hW1⟩ : ∃ W, Hid (D.alloc (.cells (pkc Pk.zero) 35) = W) := ⟨_, rfl⟩
  obtain ⟨W2, hW2⟩ : ∃ W, Hid (W1.alloc (.cells (pkc Pk.zero) 35) = W) := ⟨_, rfl⟩
  obtain ⟨f, hf⟩ : ∃ f, Hid (D.heap.size = f) := ⟨_, rfl⟩
  obtain ⟨g, hg⟩ : ∃ g, Hid (W1.heap.size = g) := ⟨_, rfl⟩
  have fz : f = w0.heap.size := by rw [← hf.out, ← hD.out]; rfl
  have gz : g = w0.heap.size + 1 := by rw [← hg.out, ← hW1.out, ← fz, ← hf.out]; simp
  have S0 : Blk w.heap.size (pkc P) 35 D ∧ Below w0.heap.size w0 D := by rw [← hD.out]; exact ⟨B0.drew, (Below.refl _ w0).drew⟩
  have S1 : Blk w.heap.size (pkc P) 35 W1 ∧ Below w0.heap.size w0 W1 := by rw [← hW1.out]; exact ⟨S0.1.alloc _, S0.2.alloc S0.2.size _⟩
  have S2 : Blk w.heap.size (pkc P) 35 W2 ∧ Below w0.heap.size w0 W2 := by rw [← hW2.out]; exact ⟨S1.1.alloc _, S1.2.alloc S1.2.size _⟩
  have f2 : Blk f (pkc Pk.zero) 35 W2 := by rw [← hf.out, ← hW2.out, ← hW1.out]; exact (blk_new D _ _).alloc _
  have g2 : Blk g (pkc Pk.zero) 35 W2 := by rw [← hg.out, ← hW2.out]; exact blk_new W1 _ _
  have lf : w0.heap.size ≤ f := by omega
  have lg : w0.heap.size ≤ g := by omega
  have nfg : f ≠ g := by omega
  have ngf : g ≠ f := by omega
  have nBf : w.heap.size ≠ f := by omega
  have nBg : w.heap.size ≠ g := by omega
  obtain ⟨W3, hW3⟩ : ∃ W, Hid (W2.setCells f 0 (pkc P).toList = W) := ⟨_, rfl⟩
  obtain ⟨W4, hW4⟩ : ∃ W, Hid (W3.setCells g 0 (pkc P).toList = W) := ⟨_, rfl⟩
  have p3 : Blk f (pkc P) 35 W3 := by rw [← hW3.out]; have h := f2.setCells (pkc P).toList 0; rw [pkc_put_all] at h; exact h
  have q3 : Blk g (pkc Pk.zero) 35 W3 := by rw [← hW3.out]; exact g2.setCells_other ngf _ 0
  have S3 : Blk w.heap.size (pkc P) 35 W3 ∧ Below w0.heap.size w0 W3 := by rw [← hW3.out]; exact ⟨S2.1.setCells_other nBf _ 0, below_cells lf _ 0 S2.2⟩
  have p4 : Blk f (pkc P) 35 W4 := by rw [← hW4.out]; exact p3.setCells_other nfg _ 0
  have q4 : Blk g (pkc P) 35 W4 := by rw [← hW4.out]; have h := q3.setCells (pkc P).toList 0; rw [pkc_put_all] at h; exact h
  have S4 : Blk w.heap.size (pkc P) 35 W4 ∧ Below w0.heap.size w0 W4 := by rw [← hW4.out]; exact ⟨S3.1.setCells_other nBg _ 0, below_cells lg _ 0 S3.2⟩
  obtain ⟨W3x, hW3x⟩ : ∃ W, Hid (W2.setCells g 0 (pkc P).toList = W) := ⟨_, rfl⟩
  obtain ⟨W4x, hW4x⟩ : ∃ W, Hid (W3x.setCells f 0 (pkc P).toList = W) := ⟨_, rfl⟩
  have p3x : Blk g (pkc P) 35 W3x := by rw [← hW3x.out]; have h := g2.setCells (pkc P).toList 0; rw [pkc_put_all] at h; exact h
  have q3x : Blk f (pkc Pk.zero) 35 W3x := by rw [← hW3x.out]; exact f2.setCells_other nfg _ 0
  have S3x : Blk w.heap.size (pkc P) 35 W3x ∧ Below w0.heap.size w0 W3x := by rw [← hW3x.out]; exact ⟨S2.1.setCells_other nBg _ 0, below_cells lg _ 0 S2.2⟩
  have p4x : Blk g (pkc P) 35 W4x := by rw [← hW4x.out]; exact p3x.setCells_other ngf _ 0
  have q4x : Blk f (pkc P) 35 W4x := by rw [← hW4x.out]; have h := q3x.setCells (pkc P).toList 0; rw [pkc_put_all] at h; exact h
  have S4x : Blk w.heap.size (pkc P) 35 W4x ∧ Below w0.heap.size w0 W4x := by rw [← hW4x.out]; exact ⟨S3x.1.setCells_other nBf _ 0, below_cells lf _ 0 S3x.2⟩
  go_enter Try.func8, Try.ntmps8
  go_upto_region 1 with fail
  go_cut [5, 6] from 13 to 14 (fun pf pg wx => Pair w.heap.size P w0 pf pg wx)
  case first =>
    refine wp_region_held_drew (S := fun w' => Blk w.heap.size (pkc P) 35 w' ∧ Below w0.heap.size w0 w') (by kernel_rfl) (by rw [hD.out]; exact S0) (fun hHeld => ?_)
    rw [hD.out] at hHeld ⊢
    refine' wpAnyH_take (i := 0) (v := _) rfl (by kernel_rfl) (by kernel_rfl) (by kernel_rfl) (fun _ _ _ h => h) (yieldsIf_load_mid (by rfl) _ _ rfl w.heap.size 0 rfl (pkl P) _ ?hS0 Try.underlying35 rfl hsz) hHeld ?rest0
    case hS0 => exact fun w h => h.1.range 0 (pkl P) (pkl_whole P)
    try simp only [List.getElem_toArray]
    try simp only [List.getElem_cons_succ]
    try simp only [List.getElem_cons_zero]
    try simp only [Act.put]
    try simp only [List.setIfInBounds_toArray]
    try simp only [List.set_cons_succ]
    try simp only [List.set_cons_zero]
    refine' wpAnyH_take (i := 1) (v := _) rfl (by kernel_rfl) (by kernel_rfl) (by kernel_rfl) (fun _ _ _ h => h) (yieldsIf_load_mid (by rfl) _ _ rfl w.heap.size 0 rfl (pkl P) _ ?hS1 Try.underlying35 rfl hsz) hHeld ?rest1
    case hS1 => exact fun w h => h.1.range 0 (pkl P) (pkl_whole P)
    try simp only [List.getElem_toArray]
    try simp only [List.getElem_cons_succ]
    try simp only [List.getElem_cons_zero]
    try simp only [Act.put]
    try simp only [List.setIfInBounds_toArray]
    try simp only [List.set_cons_succ]
    try simp only [List.set_cons_zero]
    refine wpAnyH_ready (rs := [2, 3]) (by kernel_rfl) (by simp) ?_
    refine AllReadyH.cons rfl (fun K hK => ?_) (AllReadyH.cons rfl (fun K hK => ?_) AllReadyH.nil)
    · rw [if_pos (by rfl)]
      refine wp_alloc_pk' rfl ?_
      rw [hW1.out, hf.out]
      refine hK.out _ _ S1 (fun hHeld => ?_)
      clear hK K
      try simp only [List.getElem_toArray]
      try simp only [List.getElem_cons_succ]
      try simp only [List.getElem_cons_zero]
      try simp only [Act.put]
      try simp only [List.setIfInBounds_toArray]
      try simp only [List.set_cons_succ]
      try simp only [List.set_cons_zero]
      refine wpAnyH_ready (rs := [3]) (by kernel_rfl) (by simp) ?_
      refine AllReadyH.cons rfl (fun K hK => ?_) AllReadyH.nil
      rw [if_pos (by rfl)]
      refine wp_alloc_pk' rfl ?_
      rw [hW2.out, hg.out]
      refine hK.out _ _ S2 (fun hHeld => ?_)
      clear hK K
      try simp only [List.getElem_toArray]
      try simp only [List.getElem_cons_succ]
      try simp only [List.getElem_cons_zero]
      try simp only [Act.put]
      try simp only [List.setIfInBounds_toArray]
      try simp only [List.set_cons_succ]
      try simp only [List.set_cons_zero]
      refine wpAnyH_ready (rs := [4]) (by kernel_rfl) (by simp) ?_
      refine AllReadyH.cons rfl (fun K hK => ?_) AllReadyH.nil
      rw [if_pos (by rfl)]
      refine wp_store_mid 35 _ _ rfl f 0 (pkc P) rfl rfl (f2.there 0 _ (by rw [pkc_size, pkc_size]; decide)) (by rw [pkc_size]; exact size35) (pkc_one _) ?_
      rw [hW3.out]
      refine hK.out _ _ S3 (fun hHeld => ?_)
      clear hK K
      try simp only [List.getElem_toArray]
      try simp only [List.getElem_cons_succ]
      try simp only [List.getElem_cons_zero]
      try simp only [Act.put]
      try simp only [List.setIfInBounds_toArray]
      try simp only [List.set_cons_succ]
      try simp only [List.set_cons_zero]
      refine wpAnyH_ready (rs := [5]) (by kernel_rfl) (by simp) ?_
      refine AllReadyH.cons rfl (fun K hK => ?_) AllReadyH.nil
      rw [if_pos (by rfl)]
      refine wp_store_mid 35 _ _ rfl g 0 (pkc P) rfl rfl (q3.there 0 _ (by rw [pkc_size, pkc_size]; decide)) (by rw [pkc_size]; exact size35) (pkc_one _) ?_
      rw [hW4.out]
      refine hK.out _ _ S4 (fun hHeld => ?_)
      clear hK K
      try simp only [List.getElem_toArray]
      try simp only [List.getElem_cons_succ]
      try simp only [List.getElem_cons_zero]
      try simp only [Act.put]
      try simp only [List.setIfInBounds_toArray]
      try simp only [List.set_cons_succ]
      try simp only [List.set_cons_zero]
      refine wpAnyH_done (by kernel_rfl) ?_ _
      go_wp2_with fail
      go_meet
      exact ⟨f, g, rfl, rfl, nfg, lf, lg, p4, q4, S4.1, S4.2⟩
    · rw [if_pos (by rfl)]
      refine wp_alloc_pk' rfl ?_
      rw [hW1.out, hf.out]
      refine hK.out _ _ S1 (fun hHeld => ?_)
      clear hK K
      try simp only [List.getElem_toArray]
      try simp only [List.getElem_cons_succ]
      try simp only [List.getElem_cons_zero]
      try simp only [Act.put]
      try simp only [List.setIfInBounds_toArray]
      try simp only [List.set_cons_succ]
      try simp only [List.set_cons_zero]
      refine wpAnyH_ready (rs := [2]) (by kernel_rfl) (by simp) ?_
      refine AllReadyH.cons rfl (fun K hK => ?_) AllReadyH.nil
      rw [if_pos (by rfl)]
      refine wp_alloc_pk' rfl ?_
      rw [hW2.out, hg.out]
      refine hK.out _ _ S2 (fun hHeld => ?_)
      clear hK K
      try simp only [List.getElem_toArray]
      try simp only [List.getElem_cons_succ]
      try simp only [List.getElem_cons_zero]
      try simp only [Act.put]
      try simp only [List.setIfInBounds_toArray]
      try simp only [List.set_cons_succ]
      try simp only [List.set_cons_zero]
      refine wpAnyH_ready (rs := [4]) (by kernel_rfl) (by simp) ?_
      refine AllReadyH.cons rfl (fun K hK => ?_) AllReadyH.nil
      rw [if_pos (by rfl)]
      refine wp_store_mid 35 _ _ rfl g 0 (pkc P) rfl rfl (g2.there 0 _ (by rw [pkc_size, pkc_size]; decide)) (by rw [pkc_size]; exact size35) (pkc_one _) ?_
      rw [hW3x.out]
      refine hK.out _ _ S3x (fun hHeld => ?_)
      clear hK K
      try simp only [List.getElem_toArray]
      try simp only [List.getElem_cons_succ]
      try simp only [List.getElem_cons_zero]
      try simp only [Act.put]
      try simp only [List.setIfInBounds_toArray]
      try simp only [List.set_cons_succ]
      try simp only [List.set_cons_zero]
      refine wpAnyH_ready (rs := [5]) (by kernel_rfl) (by simp) ?_
      refine AllReadyH.cons rfl (fun K hK => ?_) AllReadyH.nil
      rw [if_pos (by rfl)]
      refine wp_store_mid 35 _ _ rfl f 0 (pkc P) rfl rfl (q3x.there 0 _ (by rw [pkc_size, pkc_size]; decide)) (by rw [pkc_size]; exact size35) (pkc_one _) ?_
      rw [hW4x.out]
      refine hK.out _ _ S4x (fun hHeld => ?_)
      clear hK K
      try simp only [List.getElem_toArray]
      try simp only [List.getElem_cons_succ]
      try simp only [List.getElem_cons_zero]
      try simp only [Act.put]
      try simp only [List.setIfInBounds_toArray]
      try simp only [List.set_cons_succ]
      try simp only [List.set_cons_zero]
      refine wpAnyH_done (by kernel_rfl) ?_ _
      go_wp2_with fail
      go_meet
      exact ⟨g, f, rfl, rfl, ngf, lg, lf, p4x, q4x, S4x.1, S4x.2⟩
  case rest =>
    obtain ⟨F, G, rfl, rfl, nFG, lF, lG, F5, G5, B5, hb5⟩ := hcut
    clear f2 g2 S0 S1 S2 S3 S4 S3x S4x p3 q3 p4 q4 p3x q3x p4x q4x lf lg nfg ngf nBf nBg fz gz
    have C5 := C0.below hb5
    have b5 := b0.trans (hb5.mono b0.size)
    have nBF : w.heap.size ≠ F := by omega
    have nBG : w.heap.size ≠ G := by omega
    have nCF : w.heap.size + 1 ≠ F := by omega
    have nCG : w.heap.size + 1 ≠ G := by omega
    have lwF : w.heap.size ≤ F := by omega
    have lwG : w.heap.size ≤ G := by omega
    have KL : Hid (w.heap.size ≤ F ∧ w.heap.size ≤ G) := ⟨lwF, lwG⟩
    clear hb5 B0 C0 b0 hB0 hC0 lF lG hw0 hwa za hsz lwF lwG
    go_wp2_with (first
      | refine load_blk rfl 27 _ rfl C5 rfl Try.underlying27 rfl (by rw [rowc_size]; exact sizeCnt) ?_
      | (refine store_part (off := 13) (cells := rowc c 0) rfl 27 _ _ rfl F5 rfl rfl (by rw [rowc_size]; exact sizeCnt) (by rw [rowc_size, pkc_size]; decide) (rowc_one _ _) ?_; intro W6 F6 u6
         rw [put_count] at F6
         have B6 := B5.but u6 nBF
         have C6 := C5.but u6 nCF
         have G6 := G5.but u6 nFG.symm
         have b6 := b5.trans (u6.below KL.out.1 b5.size)
         have v6 := B6.cell 32 (.bool P.r) rfl
         have x6 := G6.cell 32 (.bool P.r) rfl
         have y6 := G6.free 32
         obtain ⟨W7, e7⟩ : ∃ W, W6.setCell ⟨G, 32, none⟩ (.bool !P.r) = W := ⟨_, rfl⟩
         have G7 : Blk G (pkc (withReady P (!P.r))) 35 W7 := by rw [← e7, ← put_ready]; exact blk_set G6 32 _
         have u7 : But G W6 W7 := by rw [← e7]; exact But.setCell G 32 W6 _
         have B7 := B6.but u7 nBG
         have C7 := C6.but u7 nCG
         have F7 := F6.but u7 nFG
         have b7 := b6.trans (u7.below KL.out.2 b6.size)
         clear F5 G5 B5 C5 b5 u6 B6 C6 G6 F6 b6 u7)
      | refine load_blk rfl 35 _ rfl B7 rfl Try.underlying35 rfl (by rw [pkc_size]; exact size35) ?_)
    refine (hE _).mono ?_
    rintro r w8 ⟨rfl, hb8⟩
    have B8 := B7.below hb8
    have C8 := C7.below hb8
    have F8 := F7.below hb8
    have G8 := G7.below hb8
    have b8 := b7.trans (hb8.mono b7.size)
    clear hb8 B7 C7 F7 G7 b7 hE v6 x6 y6 e7
    go_wp2_with (refine load_blk rfl 35 _ rfl F8 rfl Try.underlying35 rfl (by rw [pkc_size]; exact size35) ?_)
    refine (hQ _).mono ?_
    rintro r w9 ⟨rfl, hb9⟩
    have B9 := B8.below hb9
    have C9 := C8.below hb9
    have G9 := G8.below hb9
    have b9 := b8.trans (hb9.mono b8.size)
    clear hb9 B8 C8 F8 G8 b8 hQ
    go_wp2_with (refine load_blk rfl 35 _ rfl G9 rfl Try.underlying35 rfl (by rw [pkc_size]; exact size35) ?_)
    refine (hR _).mono ?_
    rintro r w10 ⟨rfl, hb10⟩
    have B10 := B9.below hb10
    have C10 := C9.below hb10
    have b10 := b9.trans (hb10.mono b9.size)
    clear hb10 B9 C9 G9 b9 hR
    go_wp2_with fail
    refine (fixed_any _).mono ?_
    rintro r w11 ⟨rfl, hb11⟩
    have B11 := B10.below hb11
    have C11 := C10.below hb11
    have b11 := b10.trans (hb11.mono b10.size)
    clear hb11 B10 C10 b10
    have hBr := B11.regrown
    have hCr := C11.regrown
    go_wp2_with fail
    refine wp_region_quiet_below (by kernel_rfl) (by kernel_rfl) ?_
    repeat (first
      | (go_big_quiet_want; refine quiet_piece (off := 13) (rowl P.n 13) 27 rfl rfl hBr (part_r13 P) Try.underlying27 rfl sizeCnt ?_; simp only [Act.put, List.setIfInBounds_toArray, List.set_cons_zero, List.set_cons_succ]; go_big_quiet_on)
      | (go_big_quiet_want; refine quiet_piece (off := 0) (rowl c 0) 27 rfl rfl hCr (row_whole c) Try.underlying27 rfl sizeCnt ?_; simp only [Act.put, List.setIfInBounds_toArray, List.set_cons_zero, List.set_cons_succ]; go_big_quiet_on)
      | go_big_quiet_step (fail))
    refine wpQuiet_nil ?_
    intro _ hw'
    obtain ⟨⟨dq, osq⟩, hw''⟩ := hw'
    subst hw''
    go_wp2_with fail
    go_ret
    exact ⟨rfl, b11.trans ((below_regrown w11 dq osq).mono b11.size)⟩

set_option maxHeartbeats 4000000 in
theorem walk_no (P : Pk) (hP : ∀ i, P.n i < 4294967296) (hm : P.may = false) (c : Nat → Nat) (hc : ∀ i, c i < 4294967296) (w : World) : Calls Try.prog 8 #[.agg (pkc P), .agg (rowc c 0)] w fun e w' => e = .returned (.bool true) ∧ Below w.heap.size w w' := by
  have hE := fun w => encode_pk P hP w
  have hQ0 := fun w => encode_pk (withCount P c) (fits_count P c hP hc) w
  have hR0 := fun w => encode_pk (withReady P (!P.r)) hP w
  rw [hm] at hE
  rw [may_count, hm] at hQ0
  rw [may_ready, hm] at hR0
  change ∀ w, Calls Try.prog 9 #[.agg (pkc P)] w fun r w' => r = .returned (.tuple #[.string ⟨#[]⟩, .int .i64 52]) ∧ Below w.heap.size w w' at hE
  have hQ : ∀ w, Calls Try.prog 9 #[.agg (pkc (withCount P c))] w fun r w' => r = .returned (.tuple #[.string ⟨#[]⟩, .int .i64 52]) ∧ Below w.heap.size w w' := hQ0
  have hR : ∀ w, Calls Try.prog 9 #[.agg (pkc (withReady P (!P.r)))] w fun r w' => r = .returned (.tuple #[.string ⟨#[]⟩, .int .i64 52]) ∧ Below w.heap.size w w' := hR0
  clear hm hP hc hQ0 hR0
  obtain ⟨wa, hwa⟩ : ∃ wa, w.alloc (.cells (pkc P) 35) = wa := ⟨_, rfl⟩
  have za : wa.heap.size = w.heap.size + 1 := by rw [← hwa]; simp
  obtain ⟨w0, hw0⟩ : ∃ w0, wa.alloc (.cells (rowc c 0) 27) = w0 := ⟨_, rfl⟩
  have B0 : Blk w.heap.size (pkc P) 35 w0 := by rw [← hw0, ← hwa]; exact (blk_new w _ _).alloc _
  have C0 : Blk (w.heap.size + 1) (rowc c 0) 27 w0 := by rw [← za, ← hw0]; exact blk_new wa _ _
  have b0 : Below w.heap.size w w0 := by rw [← hw0, ← hwa]; exact (below_box w _).alloc (by simp) _
  have hsz : (Try.prog.info? 35).map (·.size) = some (pkl P).length := by rw [show (pkl P).length = 145 from pkc_size P]; exact size35
  have hB0 := B0.lt
  have hC0 := C0.lt
  obtain ⟨D, hD⟩ : ∃ D, Hid (w0.drew = D) := ⟨_, rfl⟩
  obtain ⟨W1, hW1⟩ : ∃ W, Hid (D.alloc (.cells (pkc Pk.zero) 35) = W) := ⟨_, rfl⟩
  obtain ⟨W2, hW2⟩ : ∃ W, Hid (W1.alloc (.cells (pkc Pk.zero) 35) = W) := ⟨_, rfl⟩
  obtain ⟨f, hf⟩ : ∃ f, Hid (D.heap.size = f) := ⟨_, rfl⟩
  obtain ⟨g, hg⟩ : ∃ g, Hid (W1.heap.size = g) := ⟨_, rfl⟩
  have fz : f = w0.heap.size := by rw [← hf.out, ← hD.out]; rfl
  have gz : g = w0.heap.size + 1 := by rw [← hg.out, ← hW1.out, ← fz, ← hf.out]; simp
  have S0 : Blk w.heap.size (pkc P) 35 D ∧ Below w0.heap.size w0 D := by rw [← hD.out]; exact ⟨B0.drew, (Below.refl _ w0).drew⟩
  have S1 : Blk w.heap.size (pkc P) 35 W1 ∧ Below w0.heap.size w0 W1 := by rw [← hW1.out]; exact ⟨S0.1.alloc _, S0.2.alloc S0.2.size _⟩
  have S2 : Blk w.heap.size (pkc P) 35 W2 ∧ Below w0.heap.size w0 W2 := by rw [← hW2.out]; exact ⟨S1.1.alloc _, S1.2.alloc S1.2.size _⟩
  have f2 : Blk f (pkc Pk.zero) 35 W2 := by rw [← hf.out, ← hW2.out, ← hW1.out]; exact (blk_new D _ _).alloc _
  have g2 : Blk g (pkc Pk.zero) 35 W2 := by rw [← hg.out, ← hW2.out]; exact blk_new W1 _ _
  have lf : w0.heap.size ≤ f := by omega
  have lg : w0.heap.size ≤ g := by omega
  have nfg : f ≠ g := by omega
  have ngf : g ≠ f := by omega
  have nBf : w.heap.size ≠ f := by omega
  have nBg : w.heap.size ≠ g := by omega
  obtain ⟨W3, hW3⟩ : ∃ W, Hid (W2.setCells f 0 (pkc P).toList = W) := ⟨_, rfl⟩
  obtain ⟨W4, hW4⟩ : ∃ W, Hid (W3.setCells g 0 (pkc P).toList = W) := ⟨_, rfl⟩
  have p3 : Blk f (pkc P) 35 W3 := by rw [← hW3.out]; have h := f2.setCells (pkc P).toList 0; rw [pkc_put_all] at h; exact h
  have q3 : Blk g (pkc Pk.zero) 35 W3 := by rw [← hW3.out]; exact g2.setCells_other ngf _ 0
  have S3 : Blk w.heap.size (pkc P) 35 W3 ∧ Below w0.heap.size w0 W3 := by rw [← hW3.out]; exact ⟨S2.1.setCells_other nBf _ 0, below_cells lf _ 0 S2.2⟩
  have p4 : Blk f (pkc P) 35 W4 := by rw [← hW4.out]; exact p3.setCells_other nfg _ 0
  have q4 : Blk g (pkc P) 35 W4 := by rw [← hW4.out]; have h := q3.setCells (pkc P).toList 0; rw [pkc_put_all] at h; exact h
  have S4 : Blk w.heap.size (pkc P) 35 W4 ∧ Below w0.heap.size w0 W4 := by rw [← hW4.out]; exact ⟨S3.1.setCells_other nBg _ 0, below_cells lg _ 0 S3.2⟩
  obtain ⟨W3x, hW3x⟩ : ∃ W, Hid (W2.setCells g 0 (pkc P).toList = W) := ⟨_, rfl⟩
  obtain ⟨W4x, hW4x⟩ : ∃ W, Hid (W3x.setCells f 0 (pkc P).toList = W) := ⟨_, rfl⟩
  have p3x : Blk g (pkc P) 35 W3x := by rw [← hW3x.out]; have h := g2.setCells (pkc P).toList 0; rw [pkc_put_all] at h; exact h
  have q3x : Blk f (pkc Pk.zero) 35 W3x := by rw [← hW3x.out]; exact f2.setCells_other nfg _ 0
  have S3x : Blk w.heap.size (pkc P) 35 W3x ∧ Below w0.heap.size w0 W3x := by rw [← hW3x.out]; exact ⟨S2.1.setCells_other nBg _ 0, below_cells lg _ 0 S2.2⟩
  have p4x : Blk g (pkc P) 35 W4x := by rw [← hW4x.out]; exact p3x.setCells_other ngf _ 0
  have q4x : Blk f (pkc P) 35 W4x := by rw [← hW4x.out]; have h := q3x.setCells (pkc P).toList 0; rw [pkc_put_all] at h; exact h
  have S4x : Blk w.heap.size (pkc P) 35 W4x ∧ Below w0.heap.size w0 W4x := by rw [← hW4x.out]; exact ⟨S3x.1.setCells_other nBf _ 0, below_cells lf _ 0 S3x.2⟩
  go_enter Try.func8, Try.ntmps8
  go_upto_region 1 with fail
  go_cut [5, 6] from 13 to 14 (fun pf pg wx => Pair w.heap.size P w0 pf pg wx)
  case first =>
    refine wp_region_held_drew (S := fun w' => Blk w.heap.size (pkc P) 35 w' ∧ Below w0.heap.size w0 w') (by kernel_rfl) (by rw [hD.out]; exact S0) (fun hHeld => ?_)
    rw [hD.out] at hHeld ⊢
    refine' wpAnyH_take (i := 0) (v := _) rfl (by kernel_rfl) (by kernel_rfl) (by kernel_rfl) (fun _ _ _ h => h) (yieldsIf_load_mid (by rfl) _ _ rfl w.heap.size 0 rfl (pkl P) _ ?hS0 Try.underlying35 rfl hsz) hHeld ?rest0
    case hS0 => exact fun w h => h.1.range 0 (pkl P) (pkl_whole P)
    try simp only [List.getElem_toArray]
    try simp only [List.getElem_cons_succ]
    try simp only [List.getElem_cons_zero]
    try simp only [Act.put]
    try simp only [List.setIfInBounds_toArray]
    try simp only [List.set_cons_succ]
    try simp only [List.set_cons_zero]
    refine' wpAnyH_take (i := 1) (v := _) rfl (by kernel_rfl) (by kernel_rfl) (by kernel_rfl) (fun _ _ _ h => h) (yieldsIf_load_mid (by rfl) _ _ rfl w.heap.size 0 rfl (pkl P) _ ?hS1 Try.underlying35 rfl hsz) hHeld ?rest1
    case hS1 => exact fun w h => h.1.range 0 (pkl P) (pkl_whole P)
    try simp only [List.getElem_toArray]
    try simp only [List.getElem_cons_succ]
    try simp only [List.getElem_cons_zero]
    try simp only [Act.put]
    try simp only [List.setIfInBounds_toArray]
    try simp only [List.set_cons_succ]
    try simp only [List.set_cons_zero]
    refine wpAnyH_ready (rs := [2, 3]) (by kernel_rfl) (by simp) ?_
    refine AllReadyH.cons rfl (fun K hK => ?_) (AllReadyH.cons rfl (fun K hK => ?_) AllReadyH.nil)
    · rw [if_pos (by rfl)]
      refine wp_alloc_pk' rfl ?_
      rw [hW1.out, hf.out]
      refine hK.out _ _ S1 (fun hHeld => ?_)
      clear hK K
      try simp only [List.getElem_toArray]
      try simp only [List.getElem_cons_succ]
      try simp only [List.getElem_cons_zero]
      try simp only [Act.put]
      try simp only [List.setIfInBounds_toArray]
      try simp only [List.set_cons_succ]
      try simp only [List.set_cons_zero]
      refine wpAnyH_ready (rs := [3]) (by kernel_rfl) (by simp) ?_
      refine AllReadyH.cons rfl (fun K hK => ?_) AllReadyH.nil
      rw [if_pos (by rfl)]
      refine wp_alloc_pk' rfl ?_
      rw [hW2.out, hg.out]
      refine hK.out _ _ S2 (fun hHeld => ?_)
      clear hK K
      try simp only [List.getElem_toArray]
      try simp only [List.getElem_cons_succ]
      try simp only [List.getElem_cons_zero]
      try simp only [Act.put]
      try simp only [List.setIfInBounds_toArray]
      try simp only [List.set_cons_succ]
      try simp only [List.set_cons_zero]
      refine wpAnyH_ready (rs := [4]) (by kernel_rfl) (by simp) ?_
      refine AllReadyH.cons rfl (fun K hK => ?_) AllReadyH.nil
      rw [if_pos (by rfl)]
      refine wp_store_mid 35 _ _ rfl f 0 (pkc P) rfl rfl (f2.there 0 _ (by rw [pkc_size, pkc_size]; decide)) (by rw [pkc_size]; exact size35) (pkc_one _) ?_
      rw [hW3.out]
      refine hK.out _ _ S3 (fun hHeld => ?_)
      clear hK K
      try simp only [List.getElem_toArray]
      try simp only [List.getElem_cons_succ]
      try simp only [List.getElem_cons_zero]
      try simp only [Act.put]
      try simp only [List.setIfInBounds_toArray]
      try simp only [List.set_cons_succ]
      try simp only [List.set_cons_zero]
      refine wpAnyH_ready (rs := [5]) (by kernel_rfl) (by simp) ?_
      refine AllReadyH.cons rfl (fun K hK => ?_) AllReadyH.nil
      rw [if_pos (by rfl)]
      refine wp_store_mid 35 _ _ rfl g 0 (pkc P) rfl rfl (q3.there 0 _ (by rw [pkc_size, pkc_size]; decide)) (by rw [pkc_size]; exact size35) (pkc_one _) ?_
      rw [hW4.out]
      refine hK.out _ _ S4 (fun hHeld => ?_)
      clear hK K
      try simp only [List.getElem_toArray]
      try simp only [List.getElem_cons_succ]
      try simp only [List.getElem_cons_zero]
      try simp only [Act.put]
      try simp only [List.setIfInBounds_toArray]
      try simp only [List.set_cons_succ]
      try simp only [List.set_cons_zero]
      refine wpAnyH_done (by kernel_rfl) ?_ _
      go_wp2_with fail
      go_meet
      exact ⟨f, g, rfl, rfl, nfg, lf, lg, p4, q4, S4.1, S4.2⟩
    · rw [if_pos (by rfl)]
      refine wp_alloc_pk' rfl ?_
      rw [hW1.out, hf.out]
      refine hK.out _ _ S1 (fun hHeld => ?_)
      clear hK K
      try simp only [List.getElem_toArray]
      try simp only [List.getElem_cons_succ]
      try simp only [List.getElem_cons_zero]
      try simp only [Act.put]
      try simp only [List.setIfInBounds_toArray]
      try simp only [List.set_cons_succ]
      try simp only [List.set_cons_zero]
      refine wpAnyH_ready (rs := [2]) (by kernel_rfl) (by simp) ?_
      refine AllReadyH.cons rfl (fun K hK => ?_) AllReadyH.nil
      rw [if_pos (by rfl)]
      refine wp_alloc_pk' rfl ?_
      rw [hW2.out, hg.out]
      refine hK.out _ _ S2 (fun hHeld => ?_)
      clear hK K
      try simp only [List.getElem_toArray]
      try simp only [List.getElem_cons_succ]
      try simp only [List.getElem_cons_zero]
      try simp only [Act.put]
      try simp only [List.setIfInBounds_toArray]
      try simp only [List.set_cons_succ]
      try simp only [List.set_cons_zero]
      refine wpAnyH_ready (rs := [4]) (by kernel_rfl) (by simp) ?_
      refine AllReadyH.cons rfl (fun K hK => ?_) AllReadyH.nil
      rw [if_pos (by rfl)]
      refine wp_store_mid 35 _ _ rfl g 0 (pkc P) rfl rfl (g2.there 0 _ (by rw [pkc_size, pkc_size]; decide)) (by rw [pkc_size]; exact size35) (pkc_one _) ?_
      rw [hW3x.out]
      refine hK.out _ _ S3x (fun hHeld => ?_)
      clear hK K
      try simp only [List.getElem_toArray]
      try simp only [List.getElem_cons_succ]
      try simp only [List.getElem_cons_zero]
      try simp only [Act.put]
      try simp only [List.setIfInBounds_toArray]
      try simp only [List.set_cons_succ]
      try simp only [List.set_cons_zero]
      refine wpAnyH_ready (rs := [5]) (by kernel_rfl) (by simp) ?_
      refine AllReadyH.cons rfl (fun K hK => ?_) AllReadyH.nil
      rw [if_pos (by rfl)]
      refine wp_store_mid 35 _ _ rfl f 0 (pkc P) rfl rfl (q3x.there 0 _ (by rw [pkc_size, pkc_size]; decide)) (by rw [pkc_size]; exact size35) (pkc_one _) ?_
      rw [hW4x.out]
      refine hK.out _ _ S4x (fun hHeld => ?_)
      clear hK K
      try simp only [List.getElem_toArray]
      try simp only [List.getElem_cons_succ]
      try simp only [List.getElem_cons_zero]
      try simp only [Act.put]
      try simp only [List.setIfInBounds_toArray]
      try simp only [List.set_cons_succ]
      try simp only [List.set_cons_zero]
      refine wpAnyH_done (by kernel_rfl) ?_ _
      go_wp2_with fail
      go_meet
      exact ⟨g, f, rfl, rfl, ngf, lg, lf, p4x, q4x, S4x.1, S4x.2⟩
  case rest =>
    obtain ⟨F, G, rfl, rfl, nFG, lF, lG, F5, G5, B5, hb5⟩ := hcut
    clear f2 g2 S0 S1 S2 S3 S4 S3x S4x p3 q3 p4 q4 p3x q3x p4x q4x lf lg nfg ngf nBf nBg fz gz
    have C5 := C0.below hb5
    have b5 := b0.trans (hb5.mono b0.size)
    have nBF : w.heap.size ≠ F := by omega
    have nBG : w.heap.size ≠ G := by omega
    have nCF : w.heap.size + 1 ≠ F := by omega
    have nCG : w.heap.size + 1 ≠ G := by omega
    have lwF : w.heap.size ≤ F := by omega
    have lwG : w.heap.size ≤ G := by omega
    have KL : Hid (w.heap.size ≤ F ∧ w.heap.size ≤ G) := ⟨lwF, lwG⟩
    clear hb5 B0 C0 b0 hB0 hC0 lF lG hw0 hwa za hsz lwF lwG
    go_wp2_with (first
      | refine load_blk rfl 27 _ rfl C5 rfl Try.underlying27 rfl (by rw [rowc_size]; exact sizeCnt) ?_
      | (refine store_part (off := 13) (cells := rowc c 0) rfl 27 _ _ rfl F5 rfl rfl (by rw [rowc_size]; exact sizeCnt) (by rw [rowc_size, pkc_size]; decide) (rowc_one _ _) ?_; intro W6 F6 u6
         rw [put_count] at F6
         have B6 := B5.but u6 nBF
         have C6 := C5.but u6 nCF
         have G6 := G5.but u6 nFG.symm
         have b6 := b5.trans (u6.below KL.out.1 b5.size)
         have v6 := B6.cell 32 (.bool P.r) rfl
         have x6 := G6.cell 32 (.bool P.r) rfl
         have y6 := G6.free 32
         obtain ⟨W7, e7⟩ : ∃ W, W6.setCell ⟨G, 32, none⟩ (.bool !P.r) = W := ⟨_, rfl⟩
         have G7 : Blk G (pkc (withReady P (!P.r))) 35 W7 := by rw [← e7, ← put_ready]; exact blk_set G6 32 _
         have u7 : But G W6 W7 := by rw [← e7]; exact But.setCell G 32 W6 _
         have B7 := B6.but u7 nBG
         have C7 := C6.but u7 nCG
         have F7 := F6.but u7 nFG
         have b7 := b6.trans (u7.below KL.out.2 b6.size)
         clear F5 G5 B5 C5 b5 u6 B6 C6 G6 F6 b6 u7)
      | refine load_blk rfl 35 _ rfl B7 rfl Try.underlying35 rfl (by rw [pkc_size]; exact size35) ?_)
    refine (hE _).mono ?_
    rintro r w8 ⟨rfl, hb8⟩
    have B8 := B7.below hb8
    have C8 := C7.below hb8
    have F8 := F7.below hb8
    have G8 := G7.below hb8
    have b8 := b7.trans (hb8.mono b7.size)
    clear hb8 B7 C7 F7 G7 b7 hE v6 x6 y6 e7
    go_wp2_with (refine load_blk rfl 35 _ rfl F8 rfl Try.underlying35 rfl (by rw [pkc_size]; exact size35) ?_)
    refine (hQ _).mono ?_
    rintro r w9 ⟨rfl, hb9⟩
    have B9 := B8.below hb9
    have C9 := C8.below hb9
    have G9 := G8.below hb9
    have b9 := b8.trans (hb9.mono b8.size)
    clear hb9 B8 C8 F8 G8 b8 hQ
    go_wp2_with (refine load_blk rfl 35 _ rfl G9 rfl Try.underlying35 rfl (by rw [pkc_size]; exact size35) ?_)
    refine (hR _).mono ?_
    rintro r w10 ⟨rfl, hb10⟩
    have B10 := B9.below hb10
    have C10 := C9.below hb10
    have b10 := b9.trans (hb10.mono b9.size)
    clear hb10 B9 C9 G9 b9 hR
    go_wp2_with fail
    refine (fixed_any _).mono ?_
    rintro r w11 ⟨rfl, hb11⟩
    have B11 := B10.below hb11
    have C11 := C10.below hb11
    have b11 := b10.trans (hb11.mono b10.size)
    clear hb11 B10 C10 b10
    clear B11 C11
    go_wp2_with fail
    refine (fixed_any _).mono ?_
    rintro r w12 ⟨rfl, hb12⟩
    go_wp2_with fail
    go_ret
    exact ⟨rfl, b11.trans (hb12.mono b11.size)⟩

theorem walk (P : Pk) (hP : ∀ i, P.n i < 4294967296) (c : Nat → Nat) (hc : ∀ i, c i < 4294967296) (w : World) : Calls Try.prog 8 #[.agg (pkc P), .agg (rowc c 0)] w fun e w' => e = .returned (.bool true) ∧ Below w.heap.size w w' := by
  cases hm : P.may
  · exact walk_no P hP hm c hc w
  · exact walk_may P hP hm c hc w

set_option maxRecDepth 100000 in
theorem lifted (os : Os) (started : os.Started) (H : Type) (enc : TypeId × Value → H) :
    ReturnsInHanded {} Try.checked os 8 .any (Rows.packetFieldsSpec.pre6 enc Try.prog Try.f8 Rows.packetFieldsRow.domain false) (Rows.packetFieldsSpec.post enc Try.prog Try.f8 false true false false) := by
  refine returnsInHanded_of_change_sized (C := Try.checked) own started (by kernel_rfl) Try.func8
    (ChangeSpec.witness6 (enc := enc) (C := Try.checked) false ⟨#[], #[.agg (pkc Pk.zero), .agg (rowc (fun _ => 0) 0)], []⟩ 8 (by kernel_rfl) (by kernel_rfl) (by kernel_rfl) (by kernel_rfl)) ?_
  intro W base args ds gs before hval0 hW hcnd hsz0 _
  have hval : ∀ (j : Nat) t v, Try.f8.params[j]? = some t → args[j]? = some v → Value.okWide Try.prog W .any base t v := hval0
  have hsz : (DataW.weightsEach Try.prog (Try.f8.params.toList ++ Rows.packetFieldsSpec.plain.varTypes Try.prog) (ds ++ gs)).all (· ≤ reachBytes) = true := hsz0
  have hW' := hW
  obtain ⟨p, q, hA0, hV, rfl, hfz, hnd⟩ := hW
  have hA : DataW.TrodAll enc Try.prog W 0 (fun _ => true) true Try.f8.params.toList args.toList ds p := hA0
  rw [Try.params8] at hA hval hsz

  obtain ⟨v0, vs0, d0, ds0, p0, q0, hargs, rfl, rfl, h0, r0⟩ := trodAll_cons hA
  obtain ⟨v1, vs1, d1, ds1, p1, q1, rfl, rfl, rfl, h1, r1⟩ := trodAll_cons r0
  obtain ⟨rfl, rfl, rfl⟩ := trodAll_nil r1
  obtain rfl : args = #[v0, v1] := by cases args; simp_all
  obtain ⟨rfl, rfl⟩ := trodVars_none hV
  obtain ⟨P0, rfl, hP0⟩ := open_packet (by obtain ⟨cs, h1, _⟩ := okWide_struct Try.underlying35 (hval 0 35 v0 rfl rfl); exact ⟨cs, h1⟩) h0
  obtain ⟨N1, rfl, hN1⟩ := open_counts (by obtain ⟨cs, h1, _⟩ := (by simpa only [Value.okWide, Try.underlying27] using hval 1 27 v1 rfl rfl : ∃ cs, v1 = .agg cs ∧ _); exact ⟨cs, h1⟩) h1
  have hA2 := hA0
  clear hA0 hval0 hsz0
  simp only [List.append_nil] at hW'
  refine (walk P0 hP0 N1 hN1 W).mono fun e W' ⟨he, bel⟩ => ?_
  subst he
  exact ⟨_, rfl, _, _, _, [], _, [], hW', trodAll_mk1 (shut_bool Try.underlying4 _), (stays_all laidOut bel (by kernel_rfl) hA2), rfl, bel.frame _, fun h => by cases h⟩

theorem over : Rows.packetFieldsRow.holds Try.pinned (OpenSpec.ofChange Rows.packetFieldsSpec) :=
  OpenClaim.holds_of_wide 8 Try.f8 rfl rfl rfl rfl rfl rfl rfl ⟨rfl, rfl, rfl, rfl, rfl⟩ rfl rfl rfl rfl rfl (by kernel_rfl) Try.func8 (by kernel_rfl)
    (of_decide_eq_true (by kernel_rfl)) (by unfold Func.isWrapper; first | (rw [if_pos (by decide +kernel)]; kernel_rfl) | (rw [if_neg (by decide +kernel)]; exact ⟨rfl, rfl⟩))
    (fun os started H enc _ => lifted os started H enc)

end Go.Proofs.Ytmbddjejbmjmfaa.packetFields
namespace Go.Proofs.Ytmbddjejbmjmfaa

theorem packetFields_holds : Rows.PacketFieldsSaid := packetFields.over
#print axioms packetFields_holds

end Go.Proofs.Ytmbddjejbmjmfaa
