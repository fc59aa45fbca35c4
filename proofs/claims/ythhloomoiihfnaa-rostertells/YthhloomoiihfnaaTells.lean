/-
  What any roster is when a session is opened, closed, or sends, and whether it may be, is as the document says: the law RosterTells returns true for every input.
  No condition beyond the form's own.
-/
import Derived.Test.YthhloomoiihfnaaRows
import Derived.Test.YthhloomoiihfnaaRoR
import Derived.Test.YthhloomoiihfnaaRoF
import Derived.WalkKit
import Derived.ProofKit
import Derived.OpenShut
import Derived.ShutString
import Derived.SizedLaws
import Derived.ChangeOld
import Derived.Below
namespace Go.Proofs.Ythhloomoiihfnaa.rosterTells
open Go.Sort Go.ChangeShapes Go.WideShapes Go.ChangeAt Go.RowKit
open Go.ChangeMaps (open_string shut_string)
set_option linter.unusedVariables false
set_option maxRecDepth 10000

theorem own : ownKnob Try.prog.godebug = none := by kernel_rfl
theorem length_bytes (s : ByteArray) : s.data.toList.length = s.size := by rw [Array.length_toList]; rfl

set_option maxHeartbeats 8000000 in
theorem walk (l : Nat) (lb : l < 18446744073709551616) (la : Option Addr) (L : List Se) (lc : Nat) (lz : L.length * 16 ≤ 140737488351232) (lk : L.length ≤ lc) (lm : lc ≤ maxLen) (ls : ∀ x ∈ L, x.fit) (d0 : Int) (dw : (Lit.int .u64 d0).wf = true) (w : World) (hL : Li Se.vals 0 la L w) :
    Calls Try.prog 3 #[.agg #[.int .u64 (l : Int), .slice la L.length lc], .int .u64 d0] w fun e w' => e = .returned (.bool true) ∧ Below w.heap.size w w' := by
  obtain ⟨d, rfl, db⟩ := u64_nat d0 dw
  have p1 := open_ok l L la lc lz
  have p2 := ropen_ok l L la lc lz
  have p3 := close_ok d l L la lc lz
  have p4 := rclose_ok d l L la lc lz
  have p5 := next_ok d l L la lc lz
  have p6 := rnext_ok d l L la lc lz
  have p7 := has_ok d l L la lc (by omega)
  have p8 := rfind_ok d l L la lc (by omega)
  have p9 := may_ok l L la lc (by omega)
  have p10 := rmay_ok l L la lc (by omega)
  have hp := has_place d L
  have m1 := opn_len l L
  have m2 := cls_len d L
  have m3 := snd_len d L
  unfold Opened at p1 p2
  unfold Closed at p3 p4
  unfold Sent at p5 p6
  generalize opnL l L = M1 at p1 p2 m1
  generalize clsL d L = M2 at p3 p4 m2
  generalize sndL d L = M3 at p5 p6 m3
  generalize opnI l L = i1 at p1 p2
  generalize clsI l d L = i2 at p3 p4
  generalize sndI l d L = i3 at p5 p6
  generalize sndN d L = x3 at p5 p6
  generalize opnE l L = e1 at p1 p2
  generalize clsE d L = e2 at p3 p4
  generalize sndE d L = e3 at p5 p6
  have s1 := fun a b c d w h1 h2 => ris_ok i1 M1 a b c d (by omega) w h1 h2
  have s2 := fun a b c d w h1 h2 => ris_ok i2 M2 a b c d (by omega) w h1 h2
  have s3 := fun a b c d w h1 h2 => ris_ok i3 M3 a b c d (by omega) w h1 h2
  generalize mayS l L = t9 at p9 p10
  generalize placeI (fstS d L) = pl at p8 hp
  generalize hasS d L = th at p7 hp
  generalize M1.length = n1 at p1 p2 s1
  generalize M2.length = n2 at p3 p4 s2
  generalize M3.length = n3 at p5 p6 s3
  clear m1 m2 m3
  generalize L.length = n at *
  have b0 := blk_new w #[.int .u64 (l : Int), .slice la n lc] 25
  have hB : Below w.heap.size w (w.alloc (.cells #[.int .u64 (l : Int), .slice la n lc] 25)) := below_box w _
  go_enter Try.func3, Try.ntmps3
  go_upto_region 1 with fail
  try simp only [Act.put]
  generalize hW0 : w.alloc (Obj.cells #[.int .u64 (l : Int), .slice la n lc] 25) = W0 at b0 hB ⊢
  clear hW0
  replace hL := hL.below hB
  go_wp2_with (refine load_blk rfl 25 _ rfl b0 rfl Try.underlying25 rfl sizeRo ?_)
  refine (p1 _ hL).mono ?_
  rintro r w1 ⟨⟨a1, c1, rfl, h1⟩, hb⟩
  replace b0 := b0.below hb
  replace hL := hL.below hb
  replace hB := below_next hB hb
  replace h1 := h1.li.mono (Nat.zero_le _)
  clear hb p1
  have v1 := blk_new w1 #[.int .u64 (i1 : Int), .slice a1 n1 c1] 25
  have hb := below_box w1 (.cells #[.int .u64 (i1 : Int), .slice a1 n1 c1] 25)
  go_upto_region 2 with (go_big_may; first | refine alloc_zero zeroRo rfl rfl ?_ | refine store_new rfl 25 _ _ rfl (cells := #[.int .u64 (i1 : Int), .slice a1 n1 c1]) rfl rfl sizeRo rfl (ro_one _ _ _ _) ?_)
  try simp only [Act.put]
  generalize w1.alloc (Obj.cells #[.int .u64 (i1 : Int), .slice a1 n1 c1] 25) = W1 at v1 hb ⊢
  replace b0 := b0.below hb
  replace hL := hL.below hb
  replace h1 := h1.below hb
  replace hB := below_next hB hb
  generalize w1.heap.size = p1 at v1 hb ⊢
  clear hb
  go_wp2_with (refine load_blk rfl 25 _ rfl b0 rfl Try.underlying25 rfl sizeRo ?_)
  refine (p2 _ hL).mono ?_
  rintro r w2 ⟨⟨a2, c2, rfl, h2⟩, hb⟩
  replace b0 := b0.below hb
  replace hL := hL.below hb
  replace v1 := v1.below hb
  replace h1 := h1.below hb
  replace hB := below_next hB hb
  replace h2 := h2.li.mono (Nat.zero_le _)
  clear hb p2
  have v2 := blk_new w2 #[.int .u64 (i1 : Int), .slice a2 n1 c2] 25
  have hb := below_box w2 (.cells #[.int .u64 (i1 : Int), .slice a2 n1 c2] 25)
  go_upto_region 3 with (go_big_may; first | refine alloc_zero zeroRo rfl rfl ?_ | refine store_new rfl 25 _ _ rfl (cells := #[.int .u64 (i1 : Int), .slice a2 n1 c2]) rfl rfl sizeRo rfl (ro_one _ _ _ _) ?_)
  try simp only [Act.put]
  generalize w2.alloc (Obj.cells #[.int .u64 (i1 : Int), .slice a2 n1 c2] 25) = W2 at v2 hb ⊢
  replace b0 := b0.below hb
  replace hL := hL.below hb
  replace v1 := v1.below hb
  replace h1 := h1.below hb
  replace h2 := h2.below hb
  replace hB := below_next hB hb
  generalize w2.heap.size = p2 at v2 hb ⊢
  clear hb
  go_wp2_with (refine load_blk rfl 25 _ rfl b0 rfl Try.underlying25 rfl sizeRo ?_)
  refine (p3 _ hL).mono ?_
  rintro r w3 ⟨⟨a3, c3, rfl, h3⟩, hb⟩
  replace b0 := b0.below hb
  replace hL := hL.below hb
  replace v1 := v1.below hb
  replace v2 := v2.below hb
  replace h1 := h1.below hb
  replace h2 := h2.below hb
  replace hB := below_next hB hb
  replace h3 := h3.li.mono (Nat.zero_le _)
  clear hb p3
  have v3 := blk_new w3 #[.int .u64 (i2 : Int), .slice a3 n2 c3] 25
  have hb := below_box w3 (.cells #[.int .u64 (i2 : Int), .slice a3 n2 c3] 25)
  go_upto_region 4 with (go_big_may; first | refine alloc_zero zeroRo rfl rfl ?_ | refine store_new rfl 25 _ _ rfl (cells := #[.int .u64 (i2 : Int), .slice a3 n2 c3]) rfl rfl sizeRo rfl (ro_one _ _ _ _) ?_)
  try simp only [Act.put]
  generalize w3.alloc (Obj.cells #[.int .u64 (i2 : Int), .slice a3 n2 c3] 25) = W3 at v3 hb ⊢
  replace b0 := b0.below hb
  replace hL := hL.below hb
  replace v1 := v1.below hb
  replace v2 := v2.below hb
  replace h1 := h1.below hb
  replace h2 := h2.below hb
  replace h3 := h3.below hb
  replace hB := below_next hB hb
  generalize w3.heap.size = p3 at v3 hb ⊢
  clear hb
  go_wp2_with (refine load_blk rfl 25 _ rfl b0 rfl Try.underlying25 rfl sizeRo ?_)
  refine (p4 _ hL).mono ?_
  rintro r w4 ⟨⟨a4, c4, rfl, h4⟩, hb⟩
  replace b0 := b0.below hb
  replace hL := hL.below hb
  replace v1 := v1.below hb
  replace v2 := v2.below hb
  replace v3 := v3.below hb
  replace h1 := h1.below hb
  replace h2 := h2.below hb
  replace h3 := h3.below hb
  replace hB := below_next hB hb
  replace h4 := h4.li.mono (Nat.zero_le _)
  clear hb p4
  have v4 := blk_new w4 #[.int .u64 (i2 : Int), .slice a4 n2 c4] 25
  have hb := below_box w4 (.cells #[.int .u64 (i2 : Int), .slice a4 n2 c4] 25)
  go_upto_region 5 with (go_big_may; first | refine alloc_zero zeroRo rfl rfl ?_ | refine store_new rfl 25 _ _ rfl (cells := #[.int .u64 (i2 : Int), .slice a4 n2 c4]) rfl rfl sizeRo rfl (ro_one _ _ _ _) ?_)
  try simp only [Act.put]
  generalize w4.alloc (Obj.cells #[.int .u64 (i2 : Int), .slice a4 n2 c4] 25) = W4 at v4 hb ⊢
  replace b0 := b0.below hb
  replace hL := hL.below hb
  replace v1 := v1.below hb
  replace v2 := v2.below hb
  replace v3 := v3.below hb
  replace h1 := h1.below hb
  replace h2 := h2.below hb
  replace h3 := h3.below hb
  replace h4 := h4.below hb
  replace hB := below_next hB hb
  generalize w4.heap.size = p4 at v4 hb ⊢
  clear hb
  go_wp2_with (refine load_blk rfl 25 _ rfl b0 rfl Try.underlying25 rfl sizeRo ?_)
  refine (p5 _ hL).mono ?_
  rintro r w5 ⟨⟨a5, c5, rfl, h5⟩, hb⟩
  replace b0 := b0.below hb
  replace hL := hL.below hb
  replace v1 := v1.below hb
  replace v2 := v2.below hb
  replace v3 := v3.below hb
  replace v4 := v4.below hb
  replace h1 := h1.below hb
  replace h2 := h2.below hb
  replace h3 := h3.below hb
  replace h4 := h4.below hb
  replace hB := below_next hB hb
  replace h5 := h5.li.mono (Nat.zero_le _)
  clear hb p5
  have v5 := blk_new w5 #[.int .u64 (i3 : Int), .slice a5 n3 c5] 25
  have hb := below_box w5 (.cells #[.int .u64 (i3 : Int), .slice a5 n3 c5] 25)
  go_upto_region 6 with (go_big_may; first | refine alloc_zero zeroRo rfl rfl ?_ | refine store_new rfl 25 _ _ rfl (cells := #[.int .u64 (i3 : Int), .slice a5 n3 c5]) rfl rfl sizeRo rfl (ro_one _ _ _ _) ?_)
  try simp only [Act.put]
  generalize w5.alloc (Obj.cells #[.int .u64 (i3 : Int), .slice a5 n3 c5] 25) = W5 at v5 hb ⊢
  replace b0 := b0.below hb
  replace hL := hL.below hb
  replace v1 := v1.below hb
  replace v2 := v2.below hb
  replace v3 := v3.below hb
  replace v4 := v4.below hb
  replace h1 := h1.below hb
  replace h2 := h2.below hb
  replace h3 := h3.below hb
  replace h4 := h4.below hb
  replace h5 := h5.below hb
  replace hB := below_next hB hb
  generalize w5.heap.size = p5 at v5 hb ⊢
  clear hb
  go_wp2_with (refine load_blk rfl 25 _ rfl b0 rfl Try.underlying25 rfl sizeRo ?_)
  refine (p6 _ hL).mono ?_
  rintro r w6 ⟨⟨a6, c6, rfl, h6⟩, hb⟩
  replace b0 := b0.below hb
  replace hL := hL.below hb
  replace v1 := v1.below hb
  replace v2 := v2.below hb
  replace v3 := v3.below hb
  replace v4 := v4.below hb
  replace v5 := v5.below hb
  replace h1 := h1.below hb
  replace h2 := h2.below hb
  replace h3 := h3.below hb
  replace h4 := h4.below hb
  replace h5 := h5.below hb
  replace hB := below_next hB hb
  replace h6 := h6.li.mono (Nat.zero_le _)
  clear hb p6
  have v6 := blk_new w6 #[.int .u64 (i3 : Int), .slice a6 n3 c6] 25
  have hb := below_box w6 (.cells #[.int .u64 (i3 : Int), .slice a6 n3 c6] 25)
  go_upto_region 7 with (go_big_may; first | refine alloc_zero zeroRo rfl rfl ?_ | refine store_new rfl 25 _ _ rfl (cells := #[.int .u64 (i3 : Int), .slice a6 n3 c6]) rfl rfl sizeRo rfl (ro_one _ _ _ _) ?_)
  try simp only [Act.put]
  generalize w6.alloc (Obj.cells #[.int .u64 (i3 : Int), .slice a6 n3 c6] 25) = W6 at v6 hb ⊢
  replace b0 := b0.below hb
  replace hL := hL.below hb
  replace v1 := v1.below hb
  replace v2 := v2.below hb
  replace v3 := v3.below hb
  replace v4 := v4.below hb
  replace v5 := v5.below hb
  replace h1 := h1.below hb
  replace h2 := h2.below hb
  replace h3 := h3.below hb
  replace h4 := h4.below hb
  replace h5 := h5.below hb
  replace h6 := h6.below hb
  replace hB := below_next hB hb
  generalize w6.heap.size = p6 at v6 hb ⊢
  clear hb
  refine wp_region_held_drew (S := fun v => Below W6.heap.size W6 v) (by kernel_rfl) ((Below.refl _ _).drew) (fun hHeld => ?_)
  refine wpAnyH_ready (rs := [0]) (by kernel_rfl) (by simp) ?_
  refine AllReadyH.cons rfl (fun K hK => ?_) (AllReadyH.nil)
  go_simp
  go_wp2_with (refine (fixed_ok _).mono ?_; rintro r u1 ⟨rfl, hb⟩)
  refine hK.out _ _ (below_next hHeld hb) (fun hHeld => ?_)
  clear hK K hb
  refine wpAnyH_take (i := 1) (v := ?v21) rfl (by kernel_rfl) (by kernel_rfl) (by kernel_rfl) (fun _ _ _ h => h) (Or.inl ⟨by rfl, ?hy21⟩) hHeld ?rest21
  case hy21 => (intro w hSw; clear hSw; go_simp; try with_reducible rfl)
  try simp only [List.getElem_toArray]
  try simp only [List.getElem_cons_succ]
  try simp only [List.getElem_cons_zero]
  try simp only [Act.put]
  try simp only [List.setIfInBounds_toArray]
  try simp only [List.set_cons_succ]
  try simp only [List.set_cons_zero]
  refine' wpAnyH_take (i := 2) (v := _) rfl (by kernel_rfl) (by kernel_rfl) (by kernel_rfl) (fun _ _ _ h => h) (yieldsIf_load_mid (by rfl) _ _ rfl p1 0 rfl [.int .u64 (i1 : Int), .slice a1 n1 c1] _ ?hS22 Try.underlying25 rfl sizeRo) hHeld ?rest22
  case hS22 => exact fun w h => ((v1.below h).whole)
  try simp only [List.getElem_toArray]
  try simp only [List.getElem_cons_succ]
  try simp only [List.getElem_cons_zero]
  try simp only [Act.put]
  try simp only [List.setIfInBounds_toArray]
  try simp only [List.set_cons_succ]
  try simp only [List.set_cons_zero]
  refine' wpAnyH_take (i := 3) (v := _) rfl (by kernel_rfl) (by kernel_rfl) (by kernel_rfl) (fun _ _ _ h => h) (yieldsIf_load_mid (by rfl) _ _ rfl p2 0 rfl [.int .u64 (i1 : Int), .slice a2 n1 c2] _ ?hS23 Try.underlying25 rfl sizeRo) hHeld ?rest23
  case hS23 => exact fun w h => ((v2.below h).whole)
  try simp only [List.getElem_toArray]
  try simp only [List.getElem_cons_succ]
  try simp only [List.getElem_cons_zero]
  try simp only [Act.put]
  try simp only [List.setIfInBounds_toArray]
  try simp only [List.set_cons_succ]
  try simp only [List.set_cons_zero]
  refine wpAnyH_ready (rs := [4]) (by kernel_rfl) (by simp) ?_
  refine AllReadyH.cons rfl (fun K hK => ?_) (AllReadyH.nil)
  go_simp
  go_wp2_with (refine (s1 a1 a2 c1 c2 _ (h1.below hHeld) (h2.below hHeld)).mono ?_; rintro r u2 ⟨rfl, hb⟩)
  refine hK.out _ _ (below_next hHeld hb) (fun hHeld => ?_)
  clear hK K hb
  refine wpAnyH_take (i := 5) (v := ?v24) rfl (by kernel_rfl) (by kernel_rfl) (by kernel_rfl) (fun _ _ _ h => h) (Or.inl ⟨by rfl, ?hy24⟩) hHeld ?rest24
  case hy24 => (intro w hSw; clear hSw; go_simp; try with_reducible rfl)
  try simp only [List.getElem_toArray]
  try simp only [List.getElem_cons_succ]
  try simp only [List.getElem_cons_zero]
  try simp only [Act.put]
  try simp only [List.setIfInBounds_toArray]
  try simp only [List.set_cons_succ]
  try simp only [List.set_cons_zero]
  refine wpAnyH_take (i := 6) (v := ?v25) rfl (by kernel_rfl) (by kernel_rfl) (by kernel_rfl) (fun _ _ _ h => h) (Or.inl ⟨by rfl, ?hy25⟩) hHeld ?rest25
  case hy25 => (intro w hSw; clear hSw; go_simp; try with_reducible rfl)
  try simp only [List.getElem_toArray]
  try simp only [List.getElem_cons_succ]
  try simp only [List.getElem_cons_zero]
  try simp only [Act.put]
  try simp only [List.setIfInBounds_toArray]
  try simp only [List.set_cons_succ]
  try simp only [List.set_cons_zero]
  refine wpAnyH_take (i := 7) (v := ?v26) rfl (by kernel_rfl) (by kernel_rfl) (by kernel_rfl) (fun _ _ _ h => h) (Or.inl ⟨by rfl, ?hy26⟩) hHeld ?rest26
  case hy26 => (intro w hSw; clear hSw; go_simp; try with_reducible rfl)
  try simp only [List.getElem_toArray]
  try simp only [List.getElem_cons_succ]
  try simp only [List.getElem_cons_zero]
  try simp only [Act.put]
  try simp only [List.setIfInBounds_toArray]
  try simp only [List.set_cons_succ]
  try simp only [List.set_cons_zero]
  refine wpAnyH_take (i := 8) (v := ?v27) rfl (by kernel_rfl) (by kernel_rfl) (by kernel_rfl) (fun _ _ _ h => h) (Or.inl ⟨by rfl, ?hy27⟩) hHeld ?rest27
  case hy27 => (intro w hSw; clear hSw; go_simp; try with_reducible rfl)
  try simp only [List.getElem_toArray]
  try simp only [List.getElem_cons_succ]
  try simp only [List.getElem_cons_zero]
  try simp only [Act.put]
  try simp only [List.setIfInBounds_toArray]
  try simp only [List.set_cons_succ]
  try simp only [List.set_cons_zero]
  refine wpAnyH_take (i := 9) (v := ?v28) rfl (by kernel_rfl) (by kernel_rfl) (by kernel_rfl) (fun _ _ _ h => h) (Or.inl ⟨by rfl, ?hy28⟩) hHeld ?rest28
  case hy28 => (intro w hSw; clear hSw; go_simp; try with_reducible rfl)
  try simp only [List.getElem_toArray]
  try simp only [List.getElem_cons_succ]
  try simp only [List.getElem_cons_zero]
  try simp only [Act.put]
  try simp only [List.setIfInBounds_toArray]
  try simp only [List.set_cons_succ]
  try simp only [List.set_cons_zero]
  refine wpAnyH_take (i := 10) (v := ?v29) rfl (by kernel_rfl) (by kernel_rfl) (by kernel_rfl) (fun _ _ _ h => h) (Or.inl ⟨by rfl, ?hy29⟩) hHeld ?rest29
  case hy29 => (intro w hSw; clear hSw; go_simp; try with_reducible rfl)
  try simp only [List.getElem_toArray]
  try simp only [List.getElem_cons_succ]
  try simp only [List.getElem_cons_zero]
  try simp only [Act.put]
  try simp only [List.setIfInBounds_toArray]
  try simp only [List.set_cons_succ]
  try simp only [List.set_cons_zero]
  refine wpAnyH_take (i := 11) (v := ?v30) rfl (by kernel_rfl) (by kernel_rfl) (by kernel_rfl) (fun _ _ _ h => h) (Or.inl ⟨by rfl, ?hy30⟩) hHeld ?rest30
  case hy30 => (intro w hSw; clear hSw; go_simp; try with_reducible rfl)
  try simp only [List.getElem_toArray]
  try simp only [List.getElem_cons_succ]
  try simp only [List.getElem_cons_zero]
  try simp only [Act.put]
  try simp only [List.setIfInBounds_toArray]
  try simp only [List.set_cons_succ]
  try simp only [List.set_cons_zero]
  refine wpAnyH_take (i := 12) (v := ?v31) rfl (by kernel_rfl) (by kernel_rfl) (by kernel_rfl) (fun _ _ _ h => h) (Or.inl ⟨by rfl, ?hy31⟩) hHeld ?rest31
  case hy31 => (intro w hSw; clear hSw; go_simp; try with_reducible rfl)
  try simp only [List.getElem_toArray]
  try simp only [List.getElem_cons_succ]
  try simp only [List.getElem_cons_zero]
  try simp only [Act.put]
  try simp only [List.setIfInBounds_toArray]
  try simp only [List.set_cons_succ]
  try simp only [List.set_cons_zero]
  refine wpAnyH_take (i := 13) (v := ?v32) rfl (by kernel_rfl) (by kernel_rfl) (by kernel_rfl) (fun _ _ _ h => h) (Or.inl ⟨by rfl, ?hy32⟩) hHeld ?rest32
  case hy32 => (intro w hSw; clear hSw; go_simp; try with_reducible rfl)
  try simp only [List.getElem_toArray]
  try simp only [List.getElem_cons_succ]
  try simp only [List.getElem_cons_zero]
  try simp only [Act.put]
  try simp only [List.setIfInBounds_toArray]
  try simp only [List.set_cons_succ]
  try simp only [List.set_cons_zero]
  refine wpAnyH_take (i := 14) (v := ?v33) rfl (by kernel_rfl) (by kernel_rfl) (by kernel_rfl) (fun _ _ _ h => h) (Or.inl ⟨by rfl, ?hy33⟩) hHeld ?rest33
  case hy33 => (intro w hSw; clear hSw; go_simp; try with_reducible rfl)
  try simp only [List.getElem_toArray]
  try simp only [List.getElem_cons_succ]
  try simp only [List.getElem_cons_zero]
  try simp only [Act.put]
  try simp only [List.setIfInBounds_toArray]
  try simp only [List.set_cons_succ]
  try simp only [List.set_cons_zero]
  refine wpAnyH_take (i := 15) (v := ?v34) rfl (by kernel_rfl) (by kernel_rfl) (by kernel_rfl) (fun _ _ _ h => h) (Or.inl ⟨by rfl, ?hy34⟩) hHeld ?rest34
  case hy34 => (intro w hSw; clear hSw; go_simp; try with_reducible rfl)
  try simp only [List.getElem_toArray]
  try simp only [List.getElem_cons_succ]
  try simp only [List.getElem_cons_zero]
  try simp only [Act.put]
  try simp only [List.setIfInBounds_toArray]
  try simp only [List.set_cons_succ]
  try simp only [List.set_cons_zero]
  refine wpAnyH_take (i := 16) (v := ?v35) rfl (by kernel_rfl) (by kernel_rfl) (by kernel_rfl) (fun _ _ _ h => h) (Or.inl ⟨by rfl, ?hy35⟩) hHeld ?rest35
  case hy35 => (intro w hSw; clear hSw; go_simp; try with_reducible rfl)
  try simp only [List.getElem_toArray]
  try simp only [List.getElem_cons_succ]
  try simp only [List.getElem_cons_zero]
  try simp only [Act.put]
  try simp only [List.setIfInBounds_toArray]
  try simp only [List.set_cons_succ]
  try simp only [List.set_cons_zero]
  refine' wpAnyH_take (i := 17) (v := _) rfl (by kernel_rfl) (by kernel_rfl) (by kernel_rfl) (fun _ _ _ h => h) (yieldsIf_load_mid (by rfl) _ _ rfl p3 0 rfl [.int .u64 (i2 : Int), .slice a3 n2 c3] _ ?hS36 Try.underlying25 rfl sizeRo) hHeld ?rest36
  case hS36 => exact fun w h => ((v3.below h).whole)
  try simp only [List.getElem_toArray]
  try simp only [List.getElem_cons_succ]
  try simp only [List.getElem_cons_zero]
  try simp only [Act.put]
  try simp only [List.setIfInBounds_toArray]
  try simp only [List.set_cons_succ]
  try simp only [List.set_cons_zero]
  refine' wpAnyH_take (i := 18) (v := _) rfl (by kernel_rfl) (by kernel_rfl) (by kernel_rfl) (fun _ _ _ h => h) (yieldsIf_load_mid (by rfl) _ _ rfl p4 0 rfl [.int .u64 (i2 : Int), .slice a4 n2 c4] _ ?hS37 Try.underlying25 rfl sizeRo) hHeld ?rest37
  case hS37 => exact fun w h => ((v4.below h).whole)
  try simp only [List.getElem_toArray]
  try simp only [List.getElem_cons_succ]
  try simp only [List.getElem_cons_zero]
  try simp only [Act.put]
  try simp only [List.setIfInBounds_toArray]
  try simp only [List.set_cons_succ]
  try simp only [List.set_cons_zero]
  refine wpAnyH_ready (rs := [19]) (by kernel_rfl) (by simp) ?_
  refine AllReadyH.cons rfl (fun K hK => ?_) (AllReadyH.nil)
  go_simp
  go_wp2_with (refine (s2 a3 a4 c3 c4 _ (h3.below hHeld) (h4.below hHeld)).mono ?_; rintro r u3 ⟨rfl, hb⟩)
  refine hK.out _ _ (below_next hHeld hb) (fun hHeld => ?_)
  clear hK K hb
  refine wpAnyH_take (i := 20) (v := ?v38) rfl (by kernel_rfl) (by kernel_rfl) (by kernel_rfl) (fun _ _ _ h => h) (Or.inl ⟨by rfl, ?hy38⟩) hHeld ?rest38
  case hy38 => (intro w hSw; clear hSw; go_simp; try with_reducible rfl)
  try simp only [List.getElem_toArray]
  try simp only [List.getElem_cons_succ]
  try simp only [List.getElem_cons_zero]
  try simp only [Act.put]
  try simp only [List.setIfInBounds_toArray]
  try simp only [List.set_cons_succ]
  try simp only [List.set_cons_zero]
  refine wpAnyH_take (i := 21) (v := ?v39) rfl (by kernel_rfl) (by kernel_rfl) (by kernel_rfl) (fun _ _ _ h => h) (Or.inl ⟨by rfl, ?hy39⟩) hHeld ?rest39
  case hy39 => (intro w hSw; clear hSw; go_simp; try with_reducible rfl)
  try simp only [List.getElem_toArray]
  try simp only [List.getElem_cons_succ]
  try simp only [List.getElem_cons_zero]
  try simp only [Act.put]
  try simp only [List.setIfInBounds_toArray]
  try simp only [List.set_cons_succ]
  try simp only [List.set_cons_zero]
  refine wpAnyH_take (i := 22) (v := ?v40) rfl (by kernel_rfl) (by kernel_rfl) (by kernel_rfl) (fun _ _ _ h => h) (Or.inl ⟨by rfl, ?hy40⟩) hHeld ?rest40
  case hy40 => (intro w hSw; clear hSw; go_simp; try with_reducible rfl)
  try simp only [List.getElem_toArray]
  try simp only [List.getElem_cons_succ]
  try simp only [List.getElem_cons_zero]
  try simp only [Act.put]
  try simp only [List.setIfInBounds_toArray]
  try simp only [List.set_cons_succ]
  try simp only [List.set_cons_zero]
  refine wpAnyH_take (i := 23) (v := ?v41) rfl (by kernel_rfl) (by kernel_rfl) (by kernel_rfl) (fun _ _ _ h => h) (Or.inl ⟨by rfl, ?hy41⟩) hHeld ?rest41
  case hy41 => (intro w hSw; clear hSw; go_simp; try with_reducible rfl)
  try simp only [List.getElem_toArray]
  try simp only [List.getElem_cons_succ]
  try simp only [List.getElem_cons_zero]
  try simp only [Act.put]
  try simp only [List.setIfInBounds_toArray]
  try simp only [List.set_cons_succ]
  try simp only [List.set_cons_zero]
  refine wpAnyH_take (i := 24) (v := ?v42) rfl (by kernel_rfl) (by kernel_rfl) (by kernel_rfl) (fun _ _ _ h => h) (Or.inl ⟨by rfl, ?hy42⟩) hHeld ?rest42
  case hy42 => (intro w hSw; clear hSw; go_simp; try with_reducible rfl)
  try simp only [List.getElem_toArray]
  try simp only [List.getElem_cons_succ]
  try simp only [List.getElem_cons_zero]
  try simp only [Act.put]
  try simp only [List.setIfInBounds_toArray]
  try simp only [List.set_cons_succ]
  try simp only [List.set_cons_zero]
  refine wpAnyH_take (i := 25) (v := ?v43) rfl (by kernel_rfl) (by kernel_rfl) (by kernel_rfl) (fun _ _ _ h => h) (Or.inl ⟨by rfl, ?hy43⟩) hHeld ?rest43
  case hy43 => (intro w hSw; clear hSw; go_simp; try with_reducible rfl)
  try simp only [List.getElem_toArray]
  try simp only [List.getElem_cons_succ]
  try simp only [List.getElem_cons_zero]
  try simp only [Act.put]
  try simp only [List.setIfInBounds_toArray]
  try simp only [List.set_cons_succ]
  try simp only [List.set_cons_zero]
  refine wpAnyH_take (i := 26) (v := ?v44) rfl (by kernel_rfl) (by kernel_rfl) (by kernel_rfl) (fun _ _ _ h => h) (Or.inl ⟨by rfl, ?hy44⟩) hHeld ?rest44
  case hy44 => (intro w hSw; clear hSw; go_simp; try with_reducible rfl)
  try simp only [List.getElem_toArray]
  try simp only [List.getElem_cons_succ]
  try simp only [List.getElem_cons_zero]
  try simp only [Act.put]
  try simp only [List.setIfInBounds_toArray]
  try simp only [List.set_cons_succ]
  try simp only [List.set_cons_zero]
  refine' wpAnyH_take (i := 27) (v := _) rfl (by kernel_rfl) (by kernel_rfl) (by kernel_rfl) (fun _ _ _ h => h) (yieldsIf_load_mid (by rfl) _ _ rfl p5 0 rfl [.int .u64 (i3 : Int), .slice a5 n3 c5] _ ?hS45 Try.underlying25 rfl sizeRo) hHeld ?rest45
  case hS45 => exact fun w h => ((v5.below h).whole)
  try simp only [List.getElem_toArray]
  try simp only [List.getElem_cons_succ]
  try simp only [List.getElem_cons_zero]
  try simp only [Act.put]
  try simp only [List.setIfInBounds_toArray]
  try simp only [List.set_cons_succ]
  try simp only [List.set_cons_zero]
  refine' wpAnyH_take (i := 28) (v := _) rfl (by kernel_rfl) (by kernel_rfl) (by kernel_rfl) (fun _ _ _ h => h) (yieldsIf_load_mid (by rfl) _ _ rfl p6 0 rfl [.int .u64 (i3 : Int), .slice a6 n3 c6] _ ?hS46 Try.underlying25 rfl sizeRo) hHeld ?rest46
  case hS46 => exact fun w h => ((v6.below h).whole)
  try simp only [List.getElem_toArray]
  try simp only [List.getElem_cons_succ]
  try simp only [List.getElem_cons_zero]
  try simp only [Act.put]
  try simp only [List.setIfInBounds_toArray]
  try simp only [List.set_cons_succ]
  try simp only [List.set_cons_zero]
  refine wpAnyH_ready (rs := [29]) (by kernel_rfl) (by simp) ?_
  refine AllReadyH.cons rfl (fun K hK => ?_) (AllReadyH.nil)
  go_simp
  go_wp2_with (refine (s3 a5 a6 c5 c6 _ (h5.below hHeld) (h6.below hHeld)).mono ?_; rintro r u4 ⟨rfl, hb⟩)
  refine hK.out _ _ (below_next hHeld hb) (fun hHeld => ?_)
  clear hK K hb
  refine wpAnyH_take (i := 30) (v := ?v47) rfl (by kernel_rfl) (by kernel_rfl) (by kernel_rfl) (fun _ _ _ h => h) (Or.inl ⟨by rfl, ?hy47⟩) hHeld ?rest47
  case hy47 => (intro w hSw; clear hSw; go_simp; try with_reducible rfl)
  try simp only [List.getElem_toArray]
  try simp only [List.getElem_cons_succ]
  try simp only [List.getElem_cons_zero]
  try simp only [Act.put]
  try simp only [List.setIfInBounds_toArray]
  try simp only [List.set_cons_succ]
  try simp only [List.set_cons_zero]
  refine wpAnyH_take (i := 31) (v := ?v48) rfl (by kernel_rfl) (by kernel_rfl) (by kernel_rfl) (fun _ _ _ h => h) (Or.inl ⟨by rfl, ?hy48⟩) hHeld ?rest48
  case hy48 => (intro w hSw; clear hSw; go_simp; try with_reducible rfl)
  try simp only [List.getElem_toArray]
  try simp only [List.getElem_cons_succ]
  try simp only [List.getElem_cons_zero]
  try simp only [Act.put]
  try simp only [List.setIfInBounds_toArray]
  try simp only [List.set_cons_succ]
  try simp only [List.set_cons_zero]
  refine wpAnyH_take (i := 32) (v := ?v49) rfl (by kernel_rfl) (by kernel_rfl) (by kernel_rfl) (fun _ _ _ h => h) (Or.inl ⟨by rfl, ?hy49⟩) hHeld ?rest49
  case hy49 => (intro w hSw; clear hSw; go_simp; try with_reducible rfl)
  try simp only [List.getElem_toArray]
  try simp only [List.getElem_cons_succ]
  try simp only [List.getElem_cons_zero]
  try simp only [Act.put]
  try simp only [List.setIfInBounds_toArray]
  try simp only [List.set_cons_succ]
  try simp only [List.set_cons_zero]
  refine wpAnyH_take (i := 33) (v := ?v50) rfl (by kernel_rfl) (by kernel_rfl) (by kernel_rfl) (fun _ _ _ h => h) (Or.inl ⟨by rfl, ?hy50⟩) hHeld ?rest50
  case hy50 => (intro w hSw; clear hSw; go_simp; try with_reducible rfl)
  try simp only [List.getElem_toArray]
  try simp only [List.getElem_cons_succ]
  try simp only [List.getElem_cons_zero]
  try simp only [Act.put]
  try simp only [List.setIfInBounds_toArray]
  try simp only [List.set_cons_succ]
  try simp only [List.set_cons_zero]
  refine wpAnyH_take (i := 34) (v := ?v51) rfl (by kernel_rfl) (by kernel_rfl) (by kernel_rfl) (fun _ _ _ h => h) (Or.inl ⟨by rfl, ?hy51⟩) hHeld ?rest51
  case hy51 => (intro w hSw; clear hSw; go_simp; try with_reducible rfl)
  try simp only [List.getElem_toArray]
  try simp only [List.getElem_cons_succ]
  try simp only [List.getElem_cons_zero]
  try simp only [Act.put]
  try simp only [List.setIfInBounds_toArray]
  try simp only [List.set_cons_succ]
  try simp only [List.set_cons_zero]
  refine wpAnyH_take (i := 35) (v := ?v52) rfl (by kernel_rfl) (by kernel_rfl) (by kernel_rfl) (fun _ _ _ h => h) (Or.inl ⟨by rfl, ?hy52⟩) hHeld ?rest52
  case hy52 => (intro w hSw; clear hSw; go_simp; try with_reducible rfl)
  try simp only [List.getElem_toArray]
  try simp only [List.getElem_cons_succ]
  try simp only [List.getElem_cons_zero]
  try simp only [Act.put]
  try simp only [List.setIfInBounds_toArray]
  try simp only [List.set_cons_succ]
  try simp only [List.set_cons_zero]
  refine wpAnyH_take (i := 36) (v := ?v53) rfl (by kernel_rfl) (by kernel_rfl) (by kernel_rfl) (fun _ _ _ h => h) (Or.inl ⟨by rfl, ?hy53⟩) hHeld ?rest53
  case hy53 => (intro w hSw; clear hSw; go_simp; try with_reducible rfl)
  try simp only [List.getElem_toArray]
  try simp only [List.getElem_cons_succ]
  try simp only [List.getElem_cons_zero]
  try simp only [Act.put]
  try simp only [List.setIfInBounds_toArray]
  try simp only [List.set_cons_succ]
  try simp only [List.set_cons_zero]
  refine wpAnyH_take (i := 37) (v := ?v54) rfl (by kernel_rfl) (by kernel_rfl) (by kernel_rfl) (fun _ _ _ h => h) (Or.inl ⟨by rfl, ?hy54⟩) hHeld ?rest54
  case hy54 => (intro w hSw; clear hSw; go_simp; try with_reducible rfl)
  try simp only [List.getElem_toArray]
  try simp only [List.getElem_cons_succ]
  try simp only [List.getElem_cons_zero]
  try simp only [Act.put]
  try simp only [List.setIfInBounds_toArray]
  try simp only [List.set_cons_succ]
  try simp only [List.set_cons_zero]
  refine wpAnyH_take (i := 38) (v := ?v55) rfl (by kernel_rfl) (by kernel_rfl) (by kernel_rfl) (fun _ _ _ h => h) (Or.inl ⟨by rfl, ?hy55⟩) hHeld ?rest55
  case hy55 => (intro w hSw; clear hSw; go_simp; try with_reducible rfl)
  try simp only [List.getElem_toArray]
  try simp only [List.getElem_cons_succ]
  try simp only [List.getElem_cons_zero]
  try simp only [Act.put]
  try simp only [List.setIfInBounds_toArray]
  try simp only [List.set_cons_succ]
  try simp only [List.set_cons_zero]
  refine wpAnyH_take (i := 39) (v := ?v56) rfl (by kernel_rfl) (by kernel_rfl) (by kernel_rfl) (fun _ _ _ h => h) (Or.inl ⟨by rfl, ?hy56⟩) hHeld ?rest56
  case hy56 => (intro w hSw; clear hSw; go_simp; try with_reducible rfl)
  try simp only [List.getElem_toArray]
  try simp only [List.getElem_cons_succ]
  try simp only [List.getElem_cons_zero]
  try simp only [Act.put]
  try simp only [List.setIfInBounds_toArray]
  try simp only [List.set_cons_succ]
  try simp only [List.set_cons_zero]
  refine wpAnyH_take (i := 40) (v := ?v57) rfl (by kernel_rfl) (by kernel_rfl) (by kernel_rfl) (fun _ _ _ h => h) (Or.inl ⟨by rfl, ?hy57⟩) hHeld ?rest57
  case hy57 => (intro w hSw; clear hSw; go_simp; try with_reducible rfl)
  try simp only [List.getElem_toArray]
  try simp only [List.getElem_cons_succ]
  try simp only [List.getElem_cons_zero]
  try simp only [Act.put]
  try simp only [List.setIfInBounds_toArray]
  try simp only [List.set_cons_succ]
  try simp only [List.set_cons_zero]
  refine wpAnyH_take (i := 41) (v := ?v58) rfl (by kernel_rfl) (by kernel_rfl) (by kernel_rfl) (fun _ _ _ h => h) (Or.inl ⟨by rfl, ?hy58⟩) hHeld ?rest58
  case hy58 => (intro w hSw; clear hSw; go_simp; try with_reducible rfl)
  try simp only [List.getElem_toArray]
  try simp only [List.getElem_cons_succ]
  try simp only [List.getElem_cons_zero]
  try simp only [Act.put]
  try simp only [List.setIfInBounds_toArray]
  try simp only [List.set_cons_succ]
  try simp only [List.set_cons_zero]
  refine' wpAnyH_take (i := 42) (v := _) rfl (by kernel_rfl) (by kernel_rfl) (by kernel_rfl) (fun _ _ _ h => h) (yieldsIf_load_mid (by rfl) _ _ rfl w.heap.size 0 rfl [.int .u64 (l : Int), .slice la n lc] _ ?hS59 Try.underlying25 rfl sizeRo) hHeld ?rest59
  case hS59 => exact fun w h => ((b0.below h).whole)
  try simp only [List.getElem_toArray]
  try simp only [List.getElem_cons_succ]
  try simp only [List.getElem_cons_zero]
  try simp only [Act.put]
  try simp only [List.setIfInBounds_toArray]
  try simp only [List.set_cons_succ]
  try simp only [List.set_cons_zero]
  refine wpAnyH_take (i := 43) (v := ?v60) rfl (by kernel_rfl) (by kernel_rfl) (by kernel_rfl) (fun _ _ _ h => h) (Or.inl ⟨by rfl, ?hy60⟩) hHeld ?rest60
  case hy60 => (intro w hSw; clear hSw; go_simp; try with_reducible rfl)
  try simp only [List.getElem_toArray]
  try simp only [List.getElem_cons_succ]
  try simp only [List.getElem_cons_zero]
  try simp only [Act.put]
  try simp only [List.setIfInBounds_toArray]
  try simp only [List.set_cons_succ]
  try simp only [List.set_cons_zero]
  refine' wpAnyH_take (i := 45) (v := _) rfl (by kernel_rfl) (by kernel_rfl) (by kernel_rfl) (fun _ _ _ h => h) (yieldsIf_load_mid (by rfl) _ _ rfl w.heap.size 0 rfl [.int .u64 (l : Int), .slice la n lc] _ ?hS61 Try.underlying25 rfl sizeRo) hHeld ?rest61
  case hS61 => exact fun w h => ((b0.below h).whole)
  try simp only [List.getElem_toArray]
  try simp only [List.getElem_cons_succ]
  try simp only [List.getElem_cons_zero]
  try simp only [Act.put]
  try simp only [List.setIfInBounds_toArray]
  try simp only [List.set_cons_succ]
  try simp only [List.set_cons_zero]
  refine wpAnyH_take (i := 46) (v := ?v62) rfl (by kernel_rfl) (by kernel_rfl) (by kernel_rfl) (fun _ _ _ h => h) (Or.inl ⟨by rfl, ?hy62⟩) hHeld ?rest62
  case hy62 => (intro w hSw; clear hSw; go_simp; try with_reducible rfl)
  try simp only [List.getElem_toArray]
  try simp only [List.getElem_cons_succ]
  try simp only [List.getElem_cons_zero]
  try simp only [Act.put]
  try simp only [List.setIfInBounds_toArray]
  try simp only [List.set_cons_succ]
  try simp only [List.set_cons_zero]
  refine wpAnyH_ready (rs := [44]) (by kernel_rfl) (by simp) ?_
  refine AllReadyH.cons rfl (fun K hK => ?_) (AllReadyH.nil)
  go_simp
  go_wp2_with (refine (p7 _ (hL.below hHeld)).mono ?_; rintro r u5 ⟨rfl, hb⟩)
  refine hK.out _ _ (below_next hHeld hb) (fun hHeld => ?_)
  clear hK K hb
  refine wpAnyH_ready (rs := [47]) (by kernel_rfl) (by simp) ?_
  refine AllReadyH.cons rfl (fun K hK => ?_) (AllReadyH.nil)
  go_simp
  go_wp2_with (refine (p8 _ (hL.below hHeld)).mono ?_; rintro r u6 ⟨rfl, hb⟩)
  refine hK.out _ _ (below_next hHeld hb) (fun hHeld => ?_)
  clear hK K hb
  refine wpAnyH_take (i := 48) (v := ?v63) rfl (by kernel_rfl) (by kernel_rfl) (by kernel_rfl) (fun _ _ _ h => h) (Or.inl ⟨by rfl, ?hy63⟩) hHeld ?rest63
  case hy63 => (intro w hSw; clear hSw; go_simp; try with_reducible rfl)
  try simp only [List.getElem_toArray]
  try simp only [List.getElem_cons_succ]
  try simp only [List.getElem_cons_zero]
  try simp only [Act.put]
  try simp only [List.setIfInBounds_toArray]
  try simp only [List.set_cons_succ]
  try simp only [List.set_cons_zero]
  refine wpAnyH_take (i := 49) (v := ?v64) rfl (by kernel_rfl) (by kernel_rfl) (by kernel_rfl) (fun _ _ _ h => h) (Or.inl ⟨by rfl, ?hy64⟩) hHeld ?rest64
  case hy64 => (intro w hSw; clear hSw; go_simp; try with_reducible rfl)
  try simp only [List.getElem_toArray]
  try simp only [List.getElem_cons_succ]
  try simp only [List.getElem_cons_zero]
  try simp only [Act.put]
  try simp only [List.setIfInBounds_toArray]
  try simp only [List.set_cons_succ]
  try simp only [List.set_cons_zero]
  refine wpAnyH_take (i := 50) (v := ?v65) rfl (by kernel_rfl) (by kernel_rfl) (by kernel_rfl) (fun _ _ _ h => h) (Or.inl ⟨by rfl, ?hy65⟩) hHeld ?rest65
  case hy65 => (intro w hSw; clear hSw; go_simp; try with_reducible rfl)
  try simp only [List.getElem_toArray]
  try simp only [List.getElem_cons_succ]
  try simp only [List.getElem_cons_zero]
  try simp only [Act.put]
  try simp only [List.setIfInBounds_toArray]
  try simp only [List.set_cons_succ]
  try simp only [List.set_cons_zero]
  refine wpAnyH_take (i := 51) (v := ?v66) rfl (by kernel_rfl) (by kernel_rfl) (by kernel_rfl) (fun _ _ _ h => h) (Or.inl ⟨by rfl, ?hy66⟩) hHeld ?rest66
  case hy66 => (intro w hSw; clear hSw; go_simp; try with_reducible rfl)
  try simp only [List.getElem_toArray]
  try simp only [List.getElem_cons_succ]
  try simp only [List.getElem_cons_zero]
  try simp only [Act.put]
  try simp only [List.setIfInBounds_toArray]
  try simp only [List.set_cons_succ]
  try simp only [List.set_cons_zero]
  refine' wpAnyH_take (i := 52) (v := _) rfl (by kernel_rfl) (by kernel_rfl) (by kernel_rfl) (fun _ _ _ h => h) (yieldsIf_load_mid (by rfl) _ _ rfl w.heap.size 0 rfl [.int .u64 (l : Int), .slice la n lc] _ ?hS67 Try.underlying25 rfl sizeRo) hHeld ?rest67
  case hS67 => exact fun w h => ((b0.below h).whole)
  try simp only [List.getElem_toArray]
  try simp only [List.getElem_cons_succ]
  try simp only [List.getElem_cons_zero]
  try simp only [Act.put]
  try simp only [List.setIfInBounds_toArray]
  try simp only [List.set_cons_succ]
  try simp only [List.set_cons_zero]
  refine' wpAnyH_take (i := 54) (v := _) rfl (by kernel_rfl) (by kernel_rfl) (by kernel_rfl) (fun _ _ _ h => h) (yieldsIf_load_mid (by rfl) _ _ rfl w.heap.size 0 rfl [.int .u64 (l : Int), .slice la n lc] _ ?hS68 Try.underlying25 rfl sizeRo) hHeld ?rest68
  case hS68 => exact fun w h => ((b0.below h).whole)
  try simp only [List.getElem_toArray]
  try simp only [List.getElem_cons_succ]
  try simp only [List.getElem_cons_zero]
  try simp only [Act.put]
  try simp only [List.setIfInBounds_toArray]
  try simp only [List.set_cons_succ]
  try simp only [List.set_cons_zero]
  refine wpAnyH_ready (rs := [53]) (by kernel_rfl) (by simp) ?_
  refine AllReadyH.cons rfl (fun K hK => ?_) (AllReadyH.nil)
  go_simp
  go_wp2_with (refine (p9 _ (hL.below hHeld)).mono ?_; rintro r u7 ⟨rfl, hb⟩)
  refine hK.out _ _ (below_next hHeld hb) (fun hHeld => ?_)
  clear hK K hb
  refine wpAnyH_ready (rs := [55]) (by kernel_rfl) (by simp) ?_
  refine AllReadyH.cons rfl (fun K hK => ?_) (AllReadyH.nil)
  go_simp
  go_wp2_with (refine (p10 _ (hL.below hHeld)).mono ?_; rintro r u8 ⟨rfl, hb⟩)
  refine hK.out _ _ (below_next hHeld hb) (fun hHeld => ?_)
  clear hK K hb
  refine wpAnyH_take (i := 56) (v := ?v69) rfl (by kernel_rfl) (by kernel_rfl) (by kernel_rfl) (fun _ _ _ h => h) (Or.inl ⟨by rfl, ?hy69⟩) hHeld ?rest69
  case hy69 => (intro w hSw; clear hSw; go_simp; try with_reducible rfl)
  try simp only [List.getElem_toArray]
  try simp only [List.getElem_cons_succ]
  try simp only [List.getElem_cons_zero]
  try simp only [Act.put]
  try simp only [List.setIfInBounds_toArray]
  try simp only [List.set_cons_succ]
  try simp only [List.set_cons_zero]
  refine wpAnyH_take (i := 57) (v := ?v70) rfl (by kernel_rfl) (by kernel_rfl) (by kernel_rfl) (fun _ _ _ h => h) (Or.inl ⟨by rfl, ?hy70⟩) hHeld ?rest70
  case hy70 => (intro w hSw; clear hSw; go_simp; try with_reducible rfl)
  try simp only [List.getElem_toArray]
  try simp only [List.getElem_cons_succ]
  try simp only [List.getElem_cons_zero]
  try simp only [Act.put]
  try simp only [List.setIfInBounds_toArray]
  try simp only [List.set_cons_succ]
  try simp only [List.set_cons_zero]
  refine wpAnyH_take (i := 58) (v := ?v71) rfl (by kernel_rfl) (by kernel_rfl) (by kernel_rfl) (fun _ _ _ h => h) (Or.inl ⟨by rfl, ?hy71⟩) hHeld ?rest71
  case hy71 => (intro w hSw; clear hSw; go_simp; try with_reducible rfl)
  try simp only [List.getElem_toArray]
  try simp only [List.getElem_cons_succ]
  try simp only [List.getElem_cons_zero]
  try simp only [Act.put]
  try simp only [List.setIfInBounds_toArray]
  try simp only [List.set_cons_succ]
  try simp only [List.set_cons_zero]
  refine wpAnyH_done (by kernel_rfl) ?_ _
  go_wp2_with fail
  go_ret
  exact ⟨rfl, below_next hB hHeld⟩

set_option maxRecDepth 100000 in
theorem lifted (os : Go.Os) (started : os.Started) (H : Type) (enc : TypeId × Value → H) :
    ReturnsInHanded {} Try.checked os 3 .any (Rows.rosterTellsSpec.pre6 enc Try.prog Try.f3 Rows.rosterTellsRow.domain false) (Rows.rosterTellsSpec.post enc Try.prog Try.f3 false true false false) := by
  refine returnsInHanded_of_change_sized (C := Try.checked) own started (by kernel_rfl) Try.func3
    (ChangeSpec.witness6 (enc := enc) (C := Try.checked) false ⟨#[], #[.agg #[.int .u64 0, .slice none 0 0], .int .u64 0], []⟩ 8 (by kernel_rfl) (by kernel_rfl) (by kernel_rfl) (by kernel_rfl)) ?_
  intro W base args ds gs before hval0 hW hcnd hsz0 _
  have hval : ∀ (j : Nat) t v, Try.f3.params[j]? = some t → args[j]? = some v → Value.okWide Try.prog W .any base t v := hval0
  have hsz : (DataW.weightsEach Try.prog (Try.f3.params.toList ++ Rows.rosterTellsSpec.plain.varTypes Try.prog) (ds ++ gs)).all (· ≤ reachBytes) = true := hsz0
  have hW' := hW
  obtain ⟨p, q, hA0, hV, rfl, hfz, hnd⟩ := hW
  have hA : DataW.TrodAll enc Try.prog W 0 (fun _ => true) true Try.f3.params.toList args.toList ds p := hA0
  rw [Try.params3] at hA hval hsz

  obtain ⟨v0, vs0, d0, ds0, p0, q0, hargs, rfl, rfl, h0, r0⟩ := trodAll_cons hA
  obtain ⟨v1, vs1, d1, ds1, p1, q1, rfl, rfl, rfl, h1, r1⟩ := trodAll_cons r0
  obtain ⟨rfl, rfl, rfl⟩ := trodAll_nil r1
  obtain rfl : args = #[v0, v1] := by cases args; simp_all
  obtain ⟨rfl, rfl⟩ := trodVars_none hV
  obtain ⟨rl0, ra0, rL0, rc0, rfl, rb0, ⟨rz0, rk0, rm0, rs0, rS0⟩⟩ := open_ro (by obtain ⟨cs, h1, _⟩ := okWide_struct Try.underlying25 (hval 0 25 v0 rfl rfl); exact ⟨cs, h1⟩) (fun n hn => of_decide_eq_true (List.all_eq_true.1 hsz _ (DataW.weights_mem_each (j := 0) rfl rfl n hn))) h0
  obtain ⟨a1, rfl, rfl, rfl, w1⟩ := open_int Try.underlying22 (hval 1 22 v1 rfl rfl) h1
  have hA2 := hA0
  clear hA0 hval0 hsz0
  simp only [List.append_nil] at hW'
  refine (walk rl0 rb0 ra0 rL0 rc0 rz0 rk0 rm0 rs0 a1 w1 W rS0).mono fun e W' ⟨he, bel⟩ => ?_
  subst he
  exact ⟨_, rfl, _, _, _, [], _, [], hW', trodAll_mk1 (shut_bool Try.underlying4 _), (stays_all laidOut bel (by kernel_rfl) hA2), rfl, bel.frame _, fun h => by cases h⟩

theorem over : Rows.rosterTellsRow.holds Try.pinned (OpenSpec.ofChange Rows.rosterTellsSpec) :=
  OpenClaim.holds_of_wide 3 Try.f3 rfl rfl rfl rfl rfl rfl rfl ⟨rfl, rfl, rfl, rfl, rfl⟩ rfl rfl rfl rfl rfl (by kernel_rfl) Try.func3 (by kernel_rfl)
    (of_decide_eq_true (by kernel_rfl)) (by unfold Func.isWrapper; first | (rw [if_pos (by decide +kernel)]; kernel_rfl) | (rw [if_neg (by decide +kernel)]; exact ⟨rfl, rfl⟩))
    (fun os started H enc _ => lifted os started H enc)

end Go.Proofs.Ythhloomoiihfnaa.rosterTells
namespace Go.Proofs.Ythhloomoiihfnaa

theorem rosterTells_holds : Rows.RosterTellsSaid := rosterTells.over
#print axioms rosterTells_holds

end Go.Proofs.Ythhloomoiihfnaa
