/-
  Whatever is opened and closed, no Id is given twice, each is one more than the one ahead; a session's numbers are 1, 2, 3 and so on; never are there more than four: the law RosterFresh returns true for every input.
  No condition beyond the form's own.
-/
import Derived.Test.YthhloomoiihfnaaRows
import Derived.Test.YthhloomoiihfnaaRoN
import Derived.Test.YthhloomoiihfnaaRoF
import Derived.WalkKit
import Derived.ProofKit
import Derived.OpenShut
import Derived.ShutString
import Derived.SizedLaws
import Derived.ChangeOld
import Derived.Below
namespace Go.Proofs.Ythhloomoiihfnaa.rosterFresh
open Go.Sort Go.ChangeShapes Go.WideShapes Go.ChangeAt Go.RowKit
open Go.ChangeMaps (open_string shut_string)
set_option linter.unusedVariables false
set_option maxRecDepth 10000

theorem own : ownKnob Try.prog.godebug = none := by kernel_rfl
theorem length_bytes (s : ByteArray) : s.data.toList.length = s.size := by rw [Array.length_toList]; rfl

set_option linter.unusedSimpArgs false

theorem Li.ltb {α : Type} {f : α → List Value} {B : Nat} {a : Option Addr} {L : List α} {w : World} (h : Li f B a L w) (hne : L ≠ []) (b o : Nat) (e : a = some ⟨b, o, none⟩) : b < w.heap.size := by
  rcases h with h | ⟨b', o', e', _, hlt, _⟩
  · exact absurd h hne
  · rw [e] at e'
    cases e'
    exact hlt

set_option maxHeartbeats 16000000 in
set_option maxRecDepth 10000 in
theorem walk (ma : Option Addr) (M : List Rx) (mc : Nat) (mz : M.length * 16 ≤ 140737488351232) (mk : M.length ≤ mc) (mm : mc ≤ maxLen) (ms : ∀ x ∈ M, x.fit) (w : World) (hM : Li Rx.vals 0 ma M w) :
    Calls Try.prog 4 #[.slice ma M.length mc] w fun e w' => e = .returned (.bool true) ∧ Below w.heap.size w w' := by
  obtain ⟨iI, zI, hI, hz0, hsz, hby, hzs⟩ := infoSe
  obtain ⟨m, hm⟩ : ∃ m, Hid (M.length = m) := ⟨_, rfl⟩
  rw [hm.out] at mz mk ⊢
  have b0 := blk_new w #[.int .u64 0, .slice none 0 0] 25
  have hB : Below w.heap.size w (w.alloc (.cells #[.int .u64 0, .slice none 0 0] 25)) := below_box w _
  go_enter Try.func4, Try.ntmps4
  go_upto_region 2 with (go_big_may; first | refine build_zero builtRo rfl rfl ?_ | refine alloc_zero zeroRo rfl rfl ?_ | refine store_new rfl 25 _ _ rfl (cells := #[.int .u64 0, .slice none 0 0]) rfl rfl sizeRo rfl (ro_one _ _ _ _) ?_)
  try simp only [Act.put]
  generalize hW0 : w.alloc (Obj.cells #[.int .u64 0, .slice none 0 0] 25) = W0 at b0 hB ⊢
  clear hW0
  have hl0 := b0.lt
  have hs0 : Lg Se.vals 2 41 (w.heap.size + 1) (some ⟨W0.heap.size, 0, none⟩) 0 [] (W0.alloc (.cells #[] 41)) := Lg.of (Ow.empty (blk_new W0 #[] 41)) hl0
  have hb := below_box W0 (.cells #[] 41)
  replace b0 := b0.below hb
  replace hB := below_next hB hb
  go_wp2_with (refine box_Se0 rfl rfl ?_)
  clear hb hl0
  go_loopw [4, 5, 6] (fun kv sv iv wr => ∃ (j k : Nat) (a : Option Addr) (n c : Nat) (sa : Option Addr) (ns sc : Nat) (L s : List Se), j ≤ m ∧ j ≤ 200 ∧ iv = .int .i64 j ∧ kv = .int .u64 (k : Int) ∧ sv = .slice sa ns sc ∧ Hid (L.length = n) ∧ Hid (s.length = ns) ∧ Hid (InvO j k L s) ∧ Blk w.heap.size #[.int .u64 (k : Int), .slice a n c] 25 wr ∧ Li Se.vals (w.heap.size + 1) a L wr ∧ Lg Se.vals 2 41 (w.heap.size + 1) sa sc s wr ∧ Hid (∀ b o, a = some ⟨b, o, none⟩ → b ∉ blkOf sa) ∧ Below w.heap.size w wr) (fun _ _ iv _ => 200 - (intOf iv).toNat)
  case atStart => exact ⟨0, 0, none, 0, 0, _, 0, 0, [], [], by omega, by omega, rfl, rfl, rfl, rfl, rfl, invO_none, b0, .inl rfl, hs0, (fun b o e => by cases e), hB⟩
  case round =>
    clear b0 hs0 hB
    obtain ⟨j, k, a, n, c, sa, ns, sc, L, s, hj, hj1, rfl, rfl, rfl, hn, hns, HI, b0, hL, hs, HO, hB⟩ := hrel
    rename World => V
    have hw1 : w.heap.size + 1 ≤ V.heap.size := b0.lt
    have n4 : n ≤ 4 := by rw [← hn.out]; exact HI.out.may.1
    have k200 : k ≤ j := HI.out.kj
    have nsk : ns ≤ 200 := by rw [← hns.out, HI.out.sl]; omega
    by_cases hjm : j < m ∧ j < 200
    · obtain ⟨hjm, hj2⟩ := hjm
      have j0 : (j : Int) < (m : Int) := by omega
      have j1 : (0 : Int) ≤ (j : Int) := by omega
      have j2 : (j : Int) < 200 := by omega
      obtain ⟨x, hx⟩ : ∃ k, M[j]? = some k := ⟨_, List.getElem?_eq_getElem (by rw [hm.out]; exact hjm)⟩
      have hMx := hM.below hB
      have hMb := fun b o => Li.ltb hM (by intro e; rw [e] at hx; simp at hx) b o
      obtain ⟨b, o, rfl, -, -, hr⟩ := hMx.at Rx.vals_length j x hx
      have hbl : ¬ w.heap.size ≤ b := by have := hMb b o rfl; omega
      have cD : V.cell? ⟨b, o + j * 2, none⟩ = some (.int .i64 x.d) := hr 0 _ rfl
      clear hr hMb
      by_cases h0 : x.d = 0
      · rw [h0] at cD
        have pO := open_ok k L a c (by rw [hn.out]; omega) _ (hL.mono (Nat.zero_le _))
        unfold Opened at pO
        by_cases h4 : n < 4
        · have hin := HI.out.open (by rw [hn.out]; exact h4) (by omega)
          have e1 := hin.1
          have e2 : opnL k L = L ++ [⟨k + 1, 0⟩] := by unfold opnL; rw [e1, if_pos rfl]
          have e3 : opnI k L = k + 1 := by unfold opnI; rw [e1, if_pos rfl]
          rw [e1, e2, e3, List.length_append, hn.out] at pO
          obtain ⟨k', hk'⟩ : ∃ k', Hid (k + 1 = k') := ⟨_, rfl⟩
          have HI2 : Hid (InvO (j + 1) k' (L ++ [(⟨k', 0⟩ : Se)]) (s ++ [(⟨k', 0⟩ : Se)])) := by show InvO _ _ _ _; rw [← hk'.out]; exact hin.2
          rw [hk'.out] at pO
          have u1 : IntKind.u64.wrap ((k : Int) + 1) = (k' : Int) := by have := hk'.out; rw [IntKind.wrap_u64]; omega
          have d4 : (n : Int) < 4 := by omega
          have d5 : ((k' : Int) != (k' : Int)) = false := by simp
          have hn' : Hid ((L ++ [(⟨k', 0⟩ : Se)]).length = n + 1) := by show _ = _; rw [List.length_append, hn.out]; rfl
          have q1 : _ := b0.lt
          clear hin e1 e2 e3 h4
          go_wp2_with (refine load_blk rfl 25 _ rfl b0 rfl Try.underlying25 rfl sizeRo ?_)
          refine (pO).mono ?_
          have hs0 := hs
          rintro r w1 ⟨⟨a1, c1, rfl, h1⟩, hb⟩
          replace b0 := b0.below hb
          replace hL := hL.below hb
          replace hs := hs.below hb
          replace hB := below_next hB hb
          have hA1 : ∀ b o, a1 = some ⟨b, o, none⟩ → b ∉ blkOf sa := fun b o e hm => by
            have h8 := (h1.in b (by rw [e]; simp [blkOf])).1
            have h9 := (hs0.in b hm).2
            omega
          replace h1 := h1.li.mono hw1
          clear hs0
          clear hb pO
          have hs1 := hs
          have v1 := blk_new w1 #[.int .u64 (k' : Int), .slice a1 (n + 1) c1] 25
          have hb := below_box w1 (.cells #[.int .u64 (k' : Int), .slice a1 (n + 1) c1] 25)
          go_upto_region 10 with (go_big_may; first | refine alloc_zero zeroRo rfl rfl ?_ | refine store_new rfl 25 _ _ rfl (cells := #[.int .u64 (k' : Int), .slice a1 (n + 1) c1]) rfl rfl sizeRo rfl (ro_one _ _ _ _) ?_)
          try simp only [Act.put]
          generalize w1.alloc (Obj.cells #[.int .u64 (k' : Int), .slice a1 (n + 1) c1] 25) = W1 at v1 hb ⊢
          replace b0 := b0.below hb
          replace hL := hL.below hb
          replace hs := hs.below hb
          replace h1 := h1.below hb
          replace hB := below_next hB hb
          have hv1 : w1.heap.size ∉ blkOf sa := fun hm => by have h9 := (hs1.in _ hm).2; omega
          generalize w1.heap.size = p1 at v1 hb hv1 ⊢
          clear hb
          have z1 : W1.cell? ⟨w.heap.size, 1, none⟩ = some (.slice a n c) := b0.cell 1 _ rfl
          have hl1 := h1
          go_upto_region 17 with (go_big_may; first | (refine box_Se rfl _ rfl ⟨k', 0⟩ rfl ?_; intro W2 hl2 hb2; have s2 := hs.below hb2; have hB2 := below_next hB hb2; have b2 := b0.below hb2; have v2 := v1.below hb2; have h2 := h1.below hb2) | (refine append_any Se.vals_length rfl _ _ rfl Try.underlying23 hI hz0 hsz hby hzs s2 b2.lt hns.out rfl (M := [⟨k', 0⟩]) (m := 1) rfl (hl2.src Se.vals_length Se.vals_one Try.underlying23 1) rfl (by omega) (by simp only [maxLen]; omega) ?_; intro sa3 sc3 W3 s3 hK3 hA3))
          try simp only [Act.put, List.setIfInBounds_toArray, List.set_cons_zero, List.set_cons_succ]
          have hlt1 := hB2.size
          have b3 := b2.kp hK3 (fun hm => by have h9 := (s2.in _ hm).1; omega)
          have v3 := v2.kp hK3 hv1
          have h3 := h2.kept hK3 hA1
          have hB3 : Below w.heap.size w W3 := hB2.trans (hK3.below (fun k hk => by have h9 := (s2.in k hk).1; omega) hB2.size)
          have hA3' : ∀ b o, a1 = some ⟨b, o, none⟩ → b ∉ blkOf sa3 := fun b o e hm => by
            rcases hA3 b hm with h | h
            · exact hA1 b o e h
            · have := Li.ltb h2 (by simp) b o e
              omega
          clear b0 hL hs HO hB v1 h1 hl1 z1 d4 d5 u1 hK3 hA3 hA1 b2 v2 h2 s2 hB2 hl2 hv1 hlt1
          go_upto_region 35 with (go_big_may; first | refine load_blk rfl 25 _ rfl v3 rfl Try.underlying25 rfl sizeRo ?_ | (refine store_all rfl 25 _ _ rfl (cells := #[.int .u64 (k' : Int), .slice a1 (n + 1) c1]) b3 rfl rfl sizeRo rfl (ro_one _ _ _ _) ?_; intro W4 b0 k9))
          try simp only [Act.put, List.setIfInBounds_toArray, List.set_cons_zero, List.set_cons_succ]
          have hL := h3.kp k9 (fun q hq => by simp at hq; omega)
          have hs := s3.kp k9 (fun q hq => by simp at hq; omega)
          have hB := below_at hB3 k9 (Nat.le_refl _)
          have HO : Hid (∀ b o, a1 = some ⟨b, o, none⟩ → b ∉ blkOf sa3) := hA3'
          clear b3 v3 h3 s3 hB3 k9 hA3'
          have HI' : Hid (InvO (j + 1) k' (L ++ [(⟨k', 0⟩ : Se)]) (s ++ [(⟨k', 0⟩ : Se)])) := HI2
          have pM := may_ok k' (L ++ [(⟨k', 0⟩ : Se)]) a1 c1 (by have := HI'.out.may.1; omega) _ (hL.mono (Nat.zero_le _))
          rw [(mayS_iff _ _).2 HI'.out.may, hn'.out] at pM
          have n4 : (n + 1) ≤ 4 := by rw [← hn'.out]; exact HI'.out.may.1
          have hns' : Hid (((s ++ [(⟨k', 0⟩ : Se)])).length = (ns + 1)) := by show _ = _; rw [List.length_append, hns.out]; rfl
          go_wp2_with (refine load_blk rfl 25 _ rfl b0 rfl Try.underlying25 rfl sizeRo ?_)
          refine pM.mono ?_
          rintro r w9 ⟨rfl, hb⟩
          replace b0 := b0.below hb
          replace hL := hL.below hb
          replace hs := hs.below hb
          replace hB := below_next hB hb
          have z0 : w9.cell? ⟨w.heap.size, 0, none⟩ = some (.int .u64 (k' : Int)) := b0.cell 0 _ rfl
          have z1 : w9.cell? ⟨w.heap.size, 1, none⟩ = some (.slice a1 (n + 1) c1) := b0.cell 1 _ rfl
          have z2 : ¬ (4 : Int) < ((n + 1) : Int) := by omega
          have z3 : ((k' : Int) != (k' : Int)) = false := by simp
          clear hb pM
          go_wp2_with fail
          exact ⟨⟨j + 1, k', a1, (n + 1), c1, sa3, (ns + 1), sc3, (L ++ [(⟨k', 0⟩ : Se)]), (s ++ [(⟨k', 0⟩ : Se)]), by omega, by omega, by go_num, rfl, rfl, hn', hns', HI', b0, hL, hs, HO, hB⟩, by simp [intOf]; omega⟩
        · have e0 : opnE k L = 161 := if_pos (.inl (by rw [hn.out]; omega))
          have e2 : opnL k L = [] := by unfold opnL; rw [e0, if_neg (by decide)]
          have e3 : opnI k L = 0 := by unfold opnI; rw [e0, if_neg (by decide)]
          rw [e0, e2, e3, hn.out] at pO
          have d4 : ¬ (n : Int) < 4 := by omega
          clear e0 e2 e3
          go_wp2_with (refine load_blk rfl 25 _ rfl b0 rfl Try.underlying25 rfl sizeRo ?_)
          refine (pO).mono ?_
          rintro r w1 ⟨⟨a1, c1, rfl, h1⟩, hb⟩
          replace b0 := b0.below hb
          replace hL := hL.below hb
          replace hs := hs.below hb
          replace hB := below_next hB hb
          replace h1 := h1.li.mono (Nat.zero_le _)
          clear hb pO
          have hs1 := hs
          have v1 := blk_new w1 #[.int .u64 0, .slice a1 0 c1] 25
          have hb := below_box w1 (.cells #[.int .u64 0, .slice a1 0 c1] 25)
          go_upto_region 10 with (go_big_may; first | refine alloc_zero zeroRo rfl rfl ?_ | refine store_new rfl 25 _ _ rfl (cells := #[.int .u64 0, .slice a1 0 c1]) rfl rfl sizeRo rfl (ro_one _ _ _ _) ?_)
          try simp only [Act.put]
          generalize w1.alloc (Obj.cells #[.int .u64 0, .slice a1 0 c1] 25) = W1 at v1 hb ⊢
          replace b0 := b0.below hb
          replace hL := hL.below hb
          replace hs := hs.below hb
          replace h1 := h1.below hb
          replace hB := below_next hB hb
          have hv1 : w1.heap.size ∉ blkOf sa := fun hm => by have h9 := (hs1.in _ hm).2; omega
          generalize w1.heap.size = p1 at v1 hb hv1 ⊢
          clear hb
          clear v1 h1
          have z1 : W1.cell? ⟨w.heap.size, 1, none⟩ = some (.slice a n c) := b0.cell 1 _ rfl
          go_upto_region 35 with fail
          try simp only [Act.put, List.setIfInBounds_toArray, List.set_cons_zero, List.set_cons_succ]
          clear z1 d4 h4
          have HI' : Hid (InvO (j + 1) k L s) := HI.out.more
          have pM := may_ok k L a c (by have := HI'.out.may.1; omega) _ (hL.mono (Nat.zero_le _))
          rw [(mayS_iff _ _).2 HI'.out.may, hn.out] at pM
          have n4 : n ≤ 4 := by rw [← hn.out]; exact HI'.out.may.1
          have hns' : Hid ((s).length = ns) := hns
          go_wp2_with (refine load_blk rfl 25 _ rfl b0 rfl Try.underlying25 rfl sizeRo ?_)
          refine pM.mono ?_
          rintro r w9 ⟨rfl, hb⟩
          replace b0 := b0.below hb
          replace hL := hL.below hb
          replace hs := hs.below hb
          replace hB := below_next hB hb
          have z0 : w9.cell? ⟨w.heap.size, 0, none⟩ = some (.int .u64 (k : Int)) := b0.cell 0 _ rfl
          have z1 : w9.cell? ⟨w.heap.size, 1, none⟩ = some (.slice a n c) := b0.cell 1 _ rfl
          have z2 : ¬ (4 : Int) < (n : Int) := by omega
          have z3 : ((k : Int) != (k : Int)) = false := by simp
          clear hb pM
          go_wp2_with fail
          exact ⟨⟨j + 1, k, a, n, c, sa, ns, sc, L, s, by omega, by omega, by go_num, rfl, rfl, hn, hns', HI', b0, hL, hs, HO, hB⟩, by simp [intOf]; omega⟩
      have g0 : (x.d == 0) = false := by simpa using h0
      by_cases h1 : x.d = 1
      · rw [h1] at cD
        clear g0
        have pC := fun w h => close_ok x.i k L a c (by rw [hn.out]; omega) w h
        unfold Closed at pC
        have hcE : clsE x.i L = if hasS x.i L = true then 0 else 162 := rfl
        have hcc : Hid (hasS x.i L = true → ∃ i, fstS x.i L = some i ∧ clsL x.i L = L.eraseIdx i ∧ clsI k x.i L = k) := fun h => by
          unfold hasS at h
          cases h1 : fstS x.i L with
          | none => rw [h1] at h; cases h
          | some i => exact ⟨i, rfl, by unfold clsL; rw [h1], by unfold clsI hasS; rw [h1]; rfl⟩
        have m1 := cls_len x.i L
        obtain ⟨M1, hM1⟩ : ∃ M1, Hid (clsL x.i L = M1) := ⟨_, rfl⟩
        obtain ⟨i1, hi1⟩ : ∃ i1, Hid (clsI k x.i L = i1) := ⟨_, rfl⟩
        obtain ⟨e1, he1⟩ : ∃ e1, Hid (clsE x.i L = e1) := ⟨_, rfl⟩
        obtain ⟨n1, hn1⟩ : ∃ n1, Hid (M1.length = n1) := ⟨_, rfl⟩
        simp only [hM1.out, hi1.out, he1.out, hn1.out, hn.out] at pC
        clear hcE m1
        go_upto_region 19 with fail
        try simp only [Act.put, List.setIfInBounds_toArray, List.set_cons_zero, List.set_cons_succ]
        go_cut [10, 11] from 62 to 71 (fun yv r0 wx => ∃ yp a1 c1, yv = .pointer (some ⟨yp, 0, none⟩) ∧ r0 = .int .i64 e1 ∧ Blk yp #[.int .u64 (i1 : Int), .slice a1 n1 c1] 25 wx ∧ Lg Se.vals 2 41 V.heap.size a1 c1 M1 wx ∧ yp ∉ blkOf a1 ∧ V.heap.size ≤ yp ∧ Below V.heap.size V wx)
        case first =>
          refine wp_region_held_drew (S := fun v => Below V.heap.size V v) (by kernel_rfl) ((Below.refl _ _).drew) (fun hHeld => ?_)
          refine' wpAnyH_take (i := 0) (v := _) rfl (by kernel_rfl) (by kernel_rfl) (by kernel_rfl) (fun _ _ _ h => h) (yieldsIf_load_mid (by rfl) _ _ rfl w.heap.size 0 rfl [.int .u64 (k : Int), .slice a n c] _ ?hS21 Try.underlying25 rfl sizeRo) hHeld ?rest21
          case hS21 => exact fun w h => ((b0.below h).whole)
          try simp only [List.getElem_toArray]
          try simp only [List.getElem_cons_succ]
          try simp only [List.getElem_cons_zero]
          try simp only [Act.put]
          try simp only [List.setIfInBounds_toArray]
          try simp only [List.set_cons_succ]
          try simp only [List.set_cons_zero]
          refine wpAnyH_take (i := 1) (v := ?v22) rfl (by kernel_rfl) (by kernel_rfl) (by kernel_rfl) (fun _ _ _ h => h) (Or.inl ⟨by rfl, ?hy22⟩) hHeld ?rest22
          case hy22 => (intro w hSw; clear hSw; go_simp; try with_reducible rfl)
          try simp only [List.getElem_toArray]
          try simp only [List.getElem_cons_succ]
          try simp only [List.getElem_cons_zero]
          try simp only [Act.put]
          try simp only [List.setIfInBounds_toArray]
          try simp only [List.set_cons_succ]
          try simp only [List.set_cons_zero]
          refine wpAnyH_take (i := 2) (v := ?v23) rfl (by kernel_rfl) (by kernel_rfl) (by kernel_rfl) (fun _ _ _ h => h) (Or.inl ⟨by rfl, ?hy23⟩) hHeld ?rest23
          case hy23 => (intro w hSw; clear hSw; go_simp; try with_reducible rfl)
          try simp only [List.getElem_toArray]
          try simp only [List.getElem_cons_succ]
          try simp only [List.getElem_cons_zero]
          try simp only [Act.put]
          try simp only [List.setIfInBounds_toArray]
          try simp only [List.set_cons_succ]
          try simp only [List.set_cons_zero]
          refine wpAnyH_take (i := 3) (v := ?v24) rfl (by kernel_rfl) (by kernel_rfl) (by kernel_rfl) (fun _ _ _ h => h) (Or.inl ⟨by rfl, ?hy24⟩) hHeld ?rest24
          case hy24 => (intro w hSw; clear hSw; go_simp; try with_reducible rfl)
          try simp only [List.getElem_toArray]
          try simp only [List.getElem_cons_succ]
          try simp only [List.getElem_cons_zero]
          try simp only [Act.put]
          try simp only [List.setIfInBounds_toArray]
          try simp only [List.set_cons_succ]
          try simp only [List.set_cons_zero]
          refine wpAnyH_take (i := 4) (v := ?v25) rfl (by kernel_rfl) (by kernel_rfl) (by kernel_rfl) (fun _ _ _ h => h) (Or.inl ⟨by rfl, ?hy25⟩) hHeld ?rest25
          case hy25 => (intro w hSw; clear hSw; go_simp; try with_reducible rfl)
          try simp only [List.getElem_toArray]
          try simp only [List.getElem_cons_succ]
          try simp only [List.getElem_cons_zero]
          try simp only [Act.put]
          try simp only [List.setIfInBounds_toArray]
          try simp only [List.set_cons_succ]
          try simp only [List.set_cons_zero]
          refine wpAnyH_take (i := 5) (v := ?v26) rfl (by kernel_rfl) (by kernel_rfl) (by kernel_rfl) (fun _ _ _ h => h) (Or.inl ⟨by rfl, ?hy26⟩) hHeld ?rest26
          case hy26 => (intro w hSw; have hc := (hMx.below hSw).rng Rx.vals_length j x hx 1 (.int .u64 (x.i : Int)) rfl; clear hSw; go_simp; try with_reducible rfl)
          try simp only [List.getElem_toArray]
          try simp only [List.getElem_cons_succ]
          try simp only [List.getElem_cons_zero]
          try simp only [Act.put]
          try simp only [List.setIfInBounds_toArray]
          try simp only [List.set_cons_succ]
          try simp only [List.set_cons_zero]
          refine wpAnyH_ready (rs := [6, 10]) (by kernel_rfl) (by simp) ?_
          refine AllReadyH.cons rfl (fun K hK => ?_) (AllReadyH.cons rfl (fun K hK => ?_) (AllReadyH.nil))
          · go_simp
            go_wp2_with (refine (pC _ ((hL.mono (Nat.zero_le _)).below hHeld)).mono ?_; rintro r u1 ⟨⟨a1, c1, rfl, h1⟩, hb⟩)
            replace h1 := h1.mono hHeld.size
            refine hK.out _ _ (below_next hHeld hb) (fun hHeld => ?_)
            clear hK K hb
            refine wpAnyH_take (i := 7) (v := ?v27) rfl (by kernel_rfl) (by kernel_rfl) (by kernel_rfl) (fun _ _ _ h => h) (Or.inl ⟨by rfl, ?hy27⟩) hHeld ?rest27
            case hy27 => (intro w hSw; clear hSw; go_simp; try with_reducible rfl)
            try simp only [List.getElem_toArray]
            try simp only [List.getElem_cons_succ]
            try simp only [List.getElem_cons_zero]
            try simp only [Act.put]
            try simp only [List.setIfInBounds_toArray]
            try simp only [List.set_cons_succ]
            try simp only [List.set_cons_zero]
            refine wpAnyH_take (i := 8) (v := ?v28) rfl (by kernel_rfl) (by kernel_rfl) (by kernel_rfl) (fun _ _ _ h => h) (Or.inl ⟨by rfl, ?hy28⟩) hHeld ?rest28
            case hy28 => (intro w hSw; clear hSw; go_simp; try with_reducible rfl)
            try simp only [List.getElem_toArray]
            try simp only [List.getElem_cons_succ]
            try simp only [List.getElem_cons_zero]
            try simp only [Act.put]
            try simp only [List.setIfInBounds_toArray]
            try simp only [List.set_cons_succ]
            try simp only [List.set_cons_zero]
            refine wpAnyH_take (i := 9) (v := ?v29) rfl (by kernel_rfl) (by kernel_rfl) (by kernel_rfl) (fun _ _ _ h => h) (Or.inl ⟨by rfl, ?hy29⟩) hHeld ?rest29
            case hy29 => (intro w hSw; clear hSw; go_simp; try with_reducible rfl)
            try simp only [List.getElem_toArray]
            try simp only [List.getElem_cons_succ]
            try simp only [List.getElem_cons_zero]
            try simp only [Act.put]
            try simp only [List.setIfInBounds_toArray]
            try simp only [List.set_cons_succ]
            try simp only [List.set_cons_zero]
            refine wpAnyH_ready (rs := [10]) (by kernel_rfl) (by simp) ?_
            refine AllReadyH.cons rfl (fun K hK => ?_) (AllReadyH.nil)
            rw [if_pos (by rfl)]
            refine wp_alloc_any zeroRo rfl ?_
            intro yp u2 hY hb hyl hyt
            have hyg := Nat.le_trans hHeld.size hyl
            have hoff : yp ∉ blkOf a1 := fun hm => by have h9 := (h1.in _ hm).2; omega
            replace h1 := h1.below hb
            refine hK.out _ _ (below_next hHeld hb) (fun hHeld => ?_)
            clear hK K hb hyl hyt
            try simp only [List.getElem_toArray]
            try simp only [List.getElem_cons_succ]
            try simp only [List.getElem_cons_zero]
            try simp only [Act.put]
            try simp only [List.setIfInBounds_toArray]
            try simp only [List.set_cons_succ]
            try simp only [List.set_cons_zero]
            refine wpAnyH_ready (rs := [11]) (by kernel_rfl) (by simp) ?_
            refine AllReadyH.cons rfl (fun K hK => ?_) (AllReadyH.nil)
            rw [if_pos (by rfl)]
            refine wp_store_all 25 _ _ rfl (cells := #[.int .u64 (i1 : Int), .slice a1 n1 c1]) hY rfl rfl sizeRo rfl (ro_one _ _ _ _) ?_
            intro wY hY2 k9
            replace h1 := h1.away k9 hoff
            refine hK.out _ _ (below_at hHeld k9 hyg) (fun hHeld => ?_)
            clear hK K k9 hY
            try simp only [List.getElem_toArray]
            try simp only [List.getElem_cons_succ]
            try simp only [List.getElem_cons_zero]
            try simp only [Act.put]
            try simp only [List.setIfInBounds_toArray]
            try simp only [List.set_cons_succ]
            try simp only [List.set_cons_zero]
            refine wpAnyH_take (i := 12) (v := ?v30) rfl (by kernel_rfl) (by kernel_rfl) (by kernel_rfl) (fun _ _ _ h => h) (Or.inl ⟨by rfl, ?hy30⟩) hHeld ?rest30
            case hy30 => (intro w hSw; clear hSw; go_simp; try with_reducible rfl)
            try simp only [List.getElem_toArray]
            try simp only [List.getElem_cons_succ]
            try simp only [List.getElem_cons_zero]
            try simp only [Act.put]
            try simp only [List.setIfInBounds_toArray]
            try simp only [List.set_cons_succ]
            try simp only [List.set_cons_zero]
            refine wpAnyH_done (by kernel_rfl) ?_ _
            go_wp2_with fail
            go_meet
            exact ⟨yp, a1, c1, rfl, rfl, hY2, h1, hoff, hyg, hHeld⟩
          · rw [if_pos (by rfl)]
            refine wp_alloc_any zeroRo rfl ?_
            intro yp u4 hY hb hyl hyt
            have hyg := Nat.le_trans hHeld.size hyl
            refine hK.out _ _ (below_next hHeld hb) (fun hHeld => ?_)
            clear hK K hb hyl hyt
            try simp only [List.getElem_toArray]
            try simp only [List.getElem_cons_succ]
            try simp only [List.getElem_cons_zero]
            try simp only [Act.put]
            try simp only [List.setIfInBounds_toArray]
            try simp only [List.set_cons_succ]
            try simp only [List.set_cons_zero]
            refine wpAnyH_ready (rs := [6]) (by kernel_rfl) (by simp) ?_
            refine AllReadyH.cons rfl (fun K hK => ?_) (AllReadyH.nil)
            go_simp
            go_wp2_with (refine (pC _ ((hL.mono (Nat.zero_le _)).below hHeld)).mono ?_; rintro r u5 ⟨⟨a1, c1, rfl, h1⟩, hb⟩)
            have h1x := h1
            replace h1 := h1.mono hHeld.size
            have hyl := hY.lt
            replace hY := hY.below hb
            have hoff : yp ∉ blkOf a1 := fun hm => by have h9 := (h1x.in _ hm).1; omega
            clear hyl
            refine hK.out _ _ (below_next hHeld hb) (fun hHeld => ?_)
            clear hK K hb h1x
            refine wpAnyH_take (i := 7) (v := ?v31) rfl (by kernel_rfl) (by kernel_rfl) (by kernel_rfl) (fun _ _ _ h => h) (Or.inl ⟨by rfl, ?hy31⟩) hHeld ?rest31
            case hy31 => (intro w hSw; clear hSw; go_simp; try with_reducible rfl)
            try simp only [List.getElem_toArray]
            try simp only [List.getElem_cons_succ]
            try simp only [List.getElem_cons_zero]
            try simp only [Act.put]
            try simp only [List.setIfInBounds_toArray]
            try simp only [List.set_cons_succ]
            try simp only [List.set_cons_zero]
            refine wpAnyH_take (i := 8) (v := ?v32) rfl (by kernel_rfl) (by kernel_rfl) (by kernel_rfl) (fun _ _ _ h => h) (Or.inl ⟨by rfl, ?hy32⟩) hHeld ?rest32
            case hy32 => (intro w hSw; clear hSw; go_simp; try with_reducible rfl)
            try simp only [List.getElem_toArray]
            try simp only [List.getElem_cons_succ]
            try simp only [List.getElem_cons_zero]
            try simp only [Act.put]
            try simp only [List.setIfInBounds_toArray]
            try simp only [List.set_cons_succ]
            try simp only [List.set_cons_zero]
            refine wpAnyH_take (i := 9) (v := ?v33) rfl (by kernel_rfl) (by kernel_rfl) (by kernel_rfl) (fun _ _ _ h => h) (Or.inl ⟨by rfl, ?hy33⟩) hHeld ?rest33
            case hy33 => (intro w hSw; clear hSw; go_simp; try with_reducible rfl)
            try simp only [List.getElem_toArray]
            try simp only [List.getElem_cons_succ]
            try simp only [List.getElem_cons_zero]
            try simp only [Act.put]
            try simp only [List.setIfInBounds_toArray]
            try simp only [List.set_cons_succ]
            try simp only [List.set_cons_zero]
            refine wpAnyH_ready (rs := [11]) (by kernel_rfl) (by simp) ?_
            refine AllReadyH.cons rfl (fun K hK => ?_) (AllReadyH.nil)
            rw [if_pos (by rfl)]
            refine wp_store_all 25 _ _ rfl (cells := #[.int .u64 (i1 : Int), .slice a1 n1 c1]) hY rfl rfl sizeRo rfl (ro_one _ _ _ _) ?_
            intro wY hY2 k9
            replace h1 := h1.away k9 hoff
            refine hK.out _ _ (below_at hHeld k9 hyg) (fun hHeld => ?_)
            clear hK K k9 hY
            try simp only [List.getElem_toArray]
            try simp only [List.getElem_cons_succ]
            try simp only [List.getElem_cons_zero]
            try simp only [Act.put]
            try simp only [List.setIfInBounds_toArray]
            try simp only [List.set_cons_succ]
            try simp only [List.set_cons_zero]
            refine wpAnyH_take (i := 12) (v := ?v34) rfl (by kernel_rfl) (by kernel_rfl) (by kernel_rfl) (fun _ _ _ h => h) (Or.inl ⟨by rfl, ?hy34⟩) hHeld ?rest34
            case hy34 => (intro w hSw; clear hSw; go_simp; try with_reducible rfl)
            try simp only [List.getElem_toArray]
            try simp only [List.getElem_cons_succ]
            try simp only [List.getElem_cons_zero]
            try simp only [Act.put]
            try simp only [List.setIfInBounds_toArray]
            try simp only [List.set_cons_succ]
            try simp only [List.set_cons_zero]
            refine wpAnyH_done (by kernel_rfl) ?_ _
            go_wp2_with fail
            go_meet
            exact ⟨yp, a1, c1, rfl, rfl, hY2, h1, hoff, hyg, hHeld⟩
        case rest =>
          obtain ⟨yp, a1, c1, rfl, rfl, hY, h1, hoff, hyg, hb⟩ := hcut
          rename World => V1
          have hA1 : ∀ b o, a1 = some ⟨b, o, none⟩ → b ∉ blkOf sa := fun b o e hm => by
            have h8 := (h1.in b (by rw [e]; simp [blkOf])).1
            have h9 := (hs.in b hm).2
            omega
          have hyA : ∀ q ∈ blkOf sa, q ≠ yp := fun q hq e => by have h9 := (hs.in q hq).2; omega
          replace b0 := b0.below hb
          replace hL := hL.below hb
          replace hs := hs.below hb
          replace hMx := hMx.below hb
          replace hB := below_next hB hb
          replace h1 := h1.li.mono hw1
          have hPy : w.heap.size < yp := by have := hw1; omega
          clear hb pC hyg hoff hw1 cD
          have hw1 : w.heap.size + 1 ≤ V1.heap.size := b0.lt
          go_upto_region 20 with fail
          try simp only [Act.put, List.setIfInBounds_toArray, List.set_cons_zero, List.set_cons_succ]
          clear V
          rename World => V
          cases hh : hasS x.i L with
          | false =>
            obtain rfl : e1 = 162 := by rw [← he1.out]; unfold clsE; rw [hh]; rfl
            have rP : ∀ w', (∃ p : Regrown, w' = grow (redrawn V p.d) p.os) → w'.rangeAt w.heap.size 0 [.int .u64 (k : Int), .slice a n c] := fun w' hw => (b0.regrown w' hw).whole
            have cI : ∀ d os, (grow (redrawn V d) os).cell? ⟨b, o + j * 2 + 1, none⟩ = some (.int .u64 (x.i : Int)) := cell_regrown (hMx.rng Rx.vals_length j x hx 1 _ rfl)
            have pH := fun d os => has_ok x.i k L a c (by rw [hn.out]; omega) (grow (redrawn V d) os) ((hL.mono (Nat.zero_le _)).below (below_regrown V d os))
            simp only [hh, hn.out] at pH
            have pH' : ∀ d os, Calls Try.prog 15 #[.agg #[.int .u64 (k : Int), .slice a n c], .int .u64 (x.i : Int)] (grow (redrawn V d) os) fun e w'' => e = .returned (.bool false) ∧ ∃ p : Regrown, w'' = grow (redrawn V p.d) p.os := fun d os => Calls.regrown_of (pH d os)
            clear pH
            refine wp_region_quiet_below (by kernel_rfl) (by kernel_rfl) ?_
            repeat (first
              | (go_big_quiet_want; refine quiet_range (off := 0) rfl rfl rP Try.underlying25 rfl sizeRo ?_; simp only [Act.put, List.setIfInBounds_toArray, List.set_cons_zero, List.set_cons_succ]; go_big_quiet_on)
              | go_big_quiet_step (with_reducible exact pH' _ _))
            refine wpQuiet_nil ?_
            intro _ hw'
            obtain ⟨⟨dq, osq⟩, hw''⟩ := hw'
            have hb := below_regrown V dq osq
            subst hw''
            generalize grow (redrawn V dq) osq = V2 at hb ⊢
            replace b0 := b0.below hb
            replace hL := hL.below hb
            replace hs := hs.below hb
            replace hMx := hMx.below hb
            replace hB := below_next hB hb
            clear rP cI pH'
            clear hb hcc hM1 hi1 he1 hn1 hY h1 hA1 hyA hh
            go_upto_region 35 with fail
            try simp only [Act.put, List.setIfInBounds_toArray, List.set_cons_zero, List.set_cons_succ]
            have HI' : Hid (InvO (j + 1) k L s) := HI.out.more
            have pM := may_ok k L a c (by have := HI'.out.may.1; omega) _ (hL.mono (Nat.zero_le _))
            rw [(mayS_iff _ _).2 HI'.out.may, hn.out] at pM
            have n4 : n ≤ 4 := by rw [← hn.out]; exact HI'.out.may.1
            have hns' : Hid ((s).length = ns) := hns
            go_wp2_with (refine load_blk rfl 25 _ rfl b0 rfl Try.underlying25 rfl sizeRo ?_)
            refine pM.mono ?_
            rintro r w9 ⟨rfl, hb⟩
            replace b0 := b0.below hb
            replace hL := hL.below hb
            replace hs := hs.below hb
            replace hB := below_next hB hb
            have z0 : w9.cell? ⟨w.heap.size, 0, none⟩ = some (.int .u64 (k : Int)) := b0.cell 0 _ rfl
            have z1 : w9.cell? ⟨w.heap.size, 1, none⟩ = some (.slice a n c) := b0.cell 1 _ rfl
            have z2 : ¬ (4 : Int) < (n : Int) := by omega
            have z3 : ((k : Int) != (k : Int)) = false := by simp
            clear hb pM
            go_wp2_with fail
            exact ⟨⟨j + 1, k, a, n, c, sa, ns, sc, L, s, by omega, by omega, by go_num, rfl, rfl, hn, hns', HI', b0, hL, hs, HO, hB⟩, by simp [intOf]; omega⟩
          | true =>
            obtain rfl : e1 = 0 := by rw [← he1.out]; unfold clsE; rw [hh]; rfl
            obtain ⟨i, f1, f2, f3⟩ := hcc.out hh
            have HI2 : Hid (InvO (j + 1) k M1 s) := by show InvO _ _ _ _; rw [← hM1.out, f2]; exact HI.out.close f1
            obtain rfl : k = i1 := by rw [← hi1.out]; exact f3.symm
            have rP : ∀ w', (∃ p : Regrown, w' = grow (redrawn V p.d) p.os) → w'.rangeAt w.heap.size 0 [.int .u64 (k : Int), .slice a n c] := fun w' hw => (b0.regrown w' hw).whole
            have cI : ∀ d os, (grow (redrawn V d) os).cell? ⟨b, o + j * 2 + 1, none⟩ = some (.int .u64 (x.i : Int)) := cell_regrown (hMx.rng Rx.vals_length j x hx 1 _ rfl)
            have pH := fun d os => has_ok x.i k L a c (by rw [hn.out]; omega) (grow (redrawn V d) os) ((hL.mono (Nat.zero_le _)).below (below_regrown V d os))
            simp only [hh, hn.out] at pH
            have pH' : ∀ d os, Calls Try.prog 15 #[.agg #[.int .u64 (k : Int), .slice a n c], .int .u64 (x.i : Int)] (grow (redrawn V d) os) fun e w'' => e = .returned (.bool true) ∧ ∃ p : Regrown, w'' = grow (redrawn V p.d) p.os := fun d os => Calls.regrown_of (pH d os)
            clear pH
            refine wp_region_quiet_below (by kernel_rfl) (by kernel_rfl) ?_
            repeat (first
              | (go_big_quiet_want; refine quiet_range (off := 0) rfl rfl rP Try.underlying25 rfl sizeRo ?_; simp only [Act.put, List.setIfInBounds_toArray, List.set_cons_zero, List.set_cons_succ]; go_big_quiet_on)
              | go_big_quiet_step (with_reducible exact pH' _ _))
            refine wpQuiet_nil ?_
            intro _ hw'
            obtain ⟨⟨dq, osq⟩, hw''⟩ := hw'
            have hb := below_regrown V dq osq
            subst hw''
            generalize grow (redrawn V dq) osq = V2 at hb ⊢
            replace b0 := b0.below hb
            replace hL := hL.below hb
            replace hs := hs.below hb
            replace hMx := hMx.below hb
            replace hB := below_next hB hb
            clear rP cI pH'
            replace hY := hY.below hb
            replace h1 := h1.below hb
            clear hb hcc hM1 hi1 he1 hh f1 f2 f3
            go_upto_region 35 with (go_big_may; first | refine load_blk rfl 25 _ rfl hY rfl Try.underlying25 rfl sizeRo ?_ | (refine store_all rfl 25 _ _ rfl (cells := #[.int .u64 (k : Int), .slice a1 n1 c1]) b0 rfl rfl sizeRo rfl (ro_one _ _ _ _) ?_; intro W4 b9 k9))
            try simp only [Act.put, List.setIfInBounds_toArray, List.set_cons_zero, List.set_cons_succ]
            clear hL b0
            have b0 := b9
            have hL := h1.kp k9 (fun q hq => by simp at hq; omega)
            replace hs := hs.kp k9 (fun q hq => by simp at hq; omega)
            replace hB := below_at hB k9 (Nat.le_refl _)
            clear HO
            have HO : Hid (∀ b o, a1 = some ⟨b, o, none⟩ → b ∉ blkOf sa) := hA1
            clear b9 k9 h1 hY hA1 hyA
            have HI' : Hid (InvO (j + 1) k M1 s) := HI2
            have pM := may_ok k M1 a1 c1 (by have := HI'.out.may.1; omega) _ (hL.mono (Nat.zero_le _))
            rw [(mayS_iff _ _).2 HI'.out.may, hn1.out] at pM
            have n4 : n1 ≤ 4 := by rw [← hn1.out]; exact HI'.out.may.1
            have hns' : Hid ((s).length = ns) := hns
            go_wp2_with (refine load_blk rfl 25 _ rfl b0 rfl Try.underlying25 rfl sizeRo ?_)
            refine pM.mono ?_
            rintro r w9 ⟨rfl, hb⟩
            replace b0 := b0.below hb
            replace hL := hL.below hb
            replace hs := hs.below hb
            replace hB := below_next hB hb
            have z0 : w9.cell? ⟨w.heap.size, 0, none⟩ = some (.int .u64 (k : Int)) := b0.cell 0 _ rfl
            have z1 : w9.cell? ⟨w.heap.size, 1, none⟩ = some (.slice a1 n1 c1) := b0.cell 1 _ rfl
            have z2 : ¬ (4 : Int) < (n1 : Int) := by omega
            have z3 : ((k : Int) != (k : Int)) = false := by simp
            clear hb pM
            go_wp2_with fail
            exact ⟨⟨j + 1, k, a1, n1, c1, sa, ns, sc, M1, s, by omega, by omega, by go_num, rfl, rfl, hn1, hns', HI', b0, hL, hs, HO, hB⟩, by simp [intOf]; omega⟩
      have g1 : (x.d == 1) = false := by simpa using h1
      by_cases h2 : x.d = 2
      · rw [h2] at cD
        clear g0 g1
        have pC := fun w h => next_ok x.i k L a c (by rw [hn.out]; omega) w h
        unfold Sent at pC
        obtain ⟨M1, hM1⟩ : ∃ M1, Hid (sndL x.i L = M1) := ⟨_, rfl⟩
        obtain ⟨i1, hi1⟩ : ∃ i1, Hid (sndI k x.i L = i1) := ⟨_, rfl⟩
        obtain ⟨e1, he1⟩ : ∃ e1, Hid (sndE x.i L = e1) := ⟨_, rfl⟩
        obtain ⟨y1, hy1⟩ : ∃ y1, Hid (sndN x.i L = y1) := ⟨_, rfl⟩
        obtain ⟨n1, hn1⟩ : ∃ n1, Hid (M1.length = n1) := ⟨_, rfl⟩
        simp only [hM1.out, hi1.out, he1.out, hy1.out, hn1.out, hn.out] at pC
        go_upto_region 25 with fail
        try simp only [Act.put, List.setIfInBounds_toArray, List.set_cons_zero, List.set_cons_succ]
        go_cut [12, 13, 14] from 87 to 97 (fun yv r0 r1 wx => ∃ yp a1 c1, yv = .pointer (some ⟨yp, 0, none⟩) ∧ r0 = .int .u64 (y1 : Int) ∧ r1 = .int .i64 e1 ∧ Blk yp #[.int .u64 (i1 : Int), .slice a1 n1 c1] 25 wx ∧ Lg Se.vals 2 41 V.heap.size a1 c1 M1 wx ∧ yp ∉ blkOf a1 ∧ V.heap.size ≤ yp ∧ Below V.heap.size V wx)
        case first =>
          refine wp_region_held_drew (S := fun v => Below V.heap.size V v) (by kernel_rfl) ((Below.refl _ _).drew) (fun hHeld => ?_)
          refine' wpAnyH_take (i := 0) (v := _) rfl (by kernel_rfl) (by kernel_rfl) (by kernel_rfl) (fun _ _ _ h => h) (yieldsIf_load_mid (by rfl) _ _ rfl w.heap.size 0 rfl [.int .u64 (k : Int), .slice a n c] _ ?hS35 Try.underlying25 rfl sizeRo) hHeld ?rest35
          case hS35 => exact fun w h => ((b0.below h).whole)
          try simp only [List.getElem_toArray]
          try simp only [List.getElem_cons_succ]
          try simp only [List.getElem_cons_zero]
          try simp only [Act.put]
          try simp only [List.setIfInBounds_toArray]
          try simp only [List.set_cons_succ]
          try simp only [List.set_cons_zero]
          refine wpAnyH_take (i := 1) (v := ?v36) rfl (by kernel_rfl) (by kernel_rfl) (by kernel_rfl) (fun _ _ _ h => h) (Or.inl ⟨by rfl, ?hy36⟩) hHeld ?rest36
          case hy36 => (intro w hSw; clear hSw; go_simp; try with_reducible rfl)
          try simp only [List.getElem_toArray]
          try simp only [List.getElem_cons_succ]
          try simp only [List.getElem_cons_zero]
          try simp only [Act.put]
          try simp only [List.setIfInBounds_toArray]
          try simp only [List.set_cons_succ]
          try simp only [List.set_cons_zero]
          refine wpAnyH_take (i := 2) (v := ?v37) rfl (by kernel_rfl) (by kernel_rfl) (by kernel_rfl) (fun _ _ _ h => h) (Or.inl ⟨by rfl, ?hy37⟩) hHeld ?rest37
          case hy37 => (intro w hSw; clear hSw; go_simp; try with_reducible rfl)
          try simp only [List.getElem_toArray]
          try simp only [List.getElem_cons_succ]
          try simp only [List.getElem_cons_zero]
          try simp only [Act.put]
          try simp only [List.setIfInBounds_toArray]
          try simp only [List.set_cons_succ]
          try simp only [List.set_cons_zero]
          refine wpAnyH_take (i := 3) (v := ?v38) rfl (by kernel_rfl) (by kernel_rfl) (by kernel_rfl) (fun _ _ _ h => h) (Or.inl ⟨by rfl, ?hy38⟩) hHeld ?rest38
          case hy38 => (intro w hSw; clear hSw; go_simp; try with_reducible rfl)
          try simp only [List.getElem_toArray]
          try simp only [List.getElem_cons_succ]
          try simp only [List.getElem_cons_zero]
          try simp only [Act.put]
          try simp only [List.setIfInBounds_toArray]
          try simp only [List.set_cons_succ]
          try simp only [List.set_cons_zero]
          refine wpAnyH_take (i := 4) (v := ?v39) rfl (by kernel_rfl) (by kernel_rfl) (by kernel_rfl) (fun _ _ _ h => h) (Or.inl ⟨by rfl, ?hy39⟩) hHeld ?rest39
          case hy39 => (intro w hSw; clear hSw; go_simp; try with_reducible rfl)
          try simp only [List.getElem_toArray]
          try simp only [List.getElem_cons_succ]
          try simp only [List.getElem_cons_zero]
          try simp only [Act.put]
          try simp only [List.setIfInBounds_toArray]
          try simp only [List.set_cons_succ]
          try simp only [List.set_cons_zero]
          refine wpAnyH_take (i := 5) (v := ?v40) rfl (by kernel_rfl) (by kernel_rfl) (by kernel_rfl) (fun _ _ _ h => h) (Or.inl ⟨by rfl, ?hy40⟩) hHeld ?rest40
          case hy40 => (intro w hSw; have hc := (hMx.below hSw).rng Rx.vals_length j x hx 1 (.int .u64 (x.i : Int)) rfl; clear hSw; go_simp; try with_reducible rfl)
          try simp only [List.getElem_toArray]
          try simp only [List.getElem_cons_succ]
          try simp only [List.getElem_cons_zero]
          try simp only [Act.put]
          try simp only [List.setIfInBounds_toArray]
          try simp only [List.set_cons_succ]
          try simp only [List.set_cons_zero]
          refine wpAnyH_ready (rs := [6, 11]) (by kernel_rfl) (by simp) ?_
          refine AllReadyH.cons rfl (fun K hK => ?_) (AllReadyH.cons rfl (fun K hK => ?_) (AllReadyH.nil))
          · go_simp
            go_wp2_with (refine (pC _ ((hL.mono (Nat.zero_le _)).below hHeld)).mono ?_; rintro r u1 ⟨⟨a1, c1, rfl, h1⟩, hb⟩)
            replace h1 := h1.mono hHeld.size
            refine hK.out _ _ (below_next hHeld hb) (fun hHeld => ?_)
            clear hK K hb
            refine wpAnyH_take (i := 7) (v := ?v41) rfl (by kernel_rfl) (by kernel_rfl) (by kernel_rfl) (fun _ _ _ h => h) (Or.inl ⟨by rfl, ?hy41⟩) hHeld ?rest41
            case hy41 => (intro w hSw; clear hSw; go_simp; try with_reducible rfl)
            try simp only [List.getElem_toArray]
            try simp only [List.getElem_cons_succ]
            try simp only [List.getElem_cons_zero]
            try simp only [Act.put]
            try simp only [List.setIfInBounds_toArray]
            try simp only [List.set_cons_succ]
            try simp only [List.set_cons_zero]
            refine wpAnyH_take (i := 8) (v := ?v42) rfl (by kernel_rfl) (by kernel_rfl) (by kernel_rfl) (fun _ _ _ h => h) (Or.inl ⟨by rfl, ?hy42⟩) hHeld ?rest42
            case hy42 => (intro w hSw; clear hSw; go_simp; try with_reducible rfl)
            try simp only [List.getElem_toArray]
            try simp only [List.getElem_cons_succ]
            try simp only [List.getElem_cons_zero]
            try simp only [Act.put]
            try simp only [List.setIfInBounds_toArray]
            try simp only [List.set_cons_succ]
            try simp only [List.set_cons_zero]
            refine wpAnyH_take (i := 9) (v := ?v43) rfl (by kernel_rfl) (by kernel_rfl) (by kernel_rfl) (fun _ _ _ h => h) (Or.inl ⟨by rfl, ?hy43⟩) hHeld ?rest43
            case hy43 => (intro w hSw; clear hSw; go_simp; try with_reducible rfl)
            try simp only [List.getElem_toArray]
            try simp only [List.getElem_cons_succ]
            try simp only [List.getElem_cons_zero]
            try simp only [Act.put]
            try simp only [List.setIfInBounds_toArray]
            try simp only [List.set_cons_succ]
            try simp only [List.set_cons_zero]
            refine wpAnyH_take (i := 10) (v := ?v44) rfl (by kernel_rfl) (by kernel_rfl) (by kernel_rfl) (fun _ _ _ h => h) (Or.inl ⟨by rfl, ?hy44⟩) hHeld ?rest44
            case hy44 => (intro w hSw; clear hSw; go_simp; try with_reducible rfl)
            try simp only [List.getElem_toArray]
            try simp only [List.getElem_cons_succ]
            try simp only [List.getElem_cons_zero]
            try simp only [Act.put]
            try simp only [List.setIfInBounds_toArray]
            try simp only [List.set_cons_succ]
            try simp only [List.set_cons_zero]
            refine wpAnyH_ready (rs := [11]) (by kernel_rfl) (by simp) ?_
            refine AllReadyH.cons rfl (fun K hK => ?_) (AllReadyH.nil)
            rw [if_pos (by rfl)]
            refine wp_alloc_any zeroRo rfl ?_
            intro yp u2 hY hb hyl hyt
            have hyg := Nat.le_trans hHeld.size hyl
            have hoff : yp ∉ blkOf a1 := fun hm => by have h9 := (h1.in _ hm).2; omega
            replace h1 := h1.below hb
            refine hK.out _ _ (below_next hHeld hb) (fun hHeld => ?_)
            clear hK K hb hyl hyt
            try simp only [List.getElem_toArray]
            try simp only [List.getElem_cons_succ]
            try simp only [List.getElem_cons_zero]
            try simp only [Act.put]
            try simp only [List.setIfInBounds_toArray]
            try simp only [List.set_cons_succ]
            try simp only [List.set_cons_zero]
            refine wpAnyH_ready (rs := [12]) (by kernel_rfl) (by simp) ?_
            refine AllReadyH.cons rfl (fun K hK => ?_) (AllReadyH.nil)
            rw [if_pos (by rfl)]
            refine wp_store_all 25 _ _ rfl (cells := #[.int .u64 (i1 : Int), .slice a1 n1 c1]) hY rfl rfl sizeRo rfl (ro_one _ _ _ _) ?_
            intro wY hY2 k9
            replace h1 := h1.away k9 hoff
            refine hK.out _ _ (below_at hHeld k9 hyg) (fun hHeld => ?_)
            clear hK K k9 hY
            try simp only [List.getElem_toArray]
            try simp only [List.getElem_cons_succ]
            try simp only [List.getElem_cons_zero]
            try simp only [Act.put]
            try simp only [List.setIfInBounds_toArray]
            try simp only [List.set_cons_succ]
            try simp only [List.set_cons_zero]
            refine wpAnyH_take (i := 13) (v := ?v45) rfl (by kernel_rfl) (by kernel_rfl) (by kernel_rfl) (fun _ _ _ h => h) (Or.inl ⟨by rfl, ?hy45⟩) hHeld ?rest45
            case hy45 => (intro w hSw; clear hSw; go_simp; try with_reducible rfl)
            try simp only [List.getElem_toArray]
            try simp only [List.getElem_cons_succ]
            try simp only [List.getElem_cons_zero]
            try simp only [Act.put]
            try simp only [List.setIfInBounds_toArray]
            try simp only [List.set_cons_succ]
            try simp only [List.set_cons_zero]
            refine wpAnyH_take (i := 14) (v := ?v46) rfl (by kernel_rfl) (by kernel_rfl) (by kernel_rfl) (fun _ _ _ h => h) (Or.inl ⟨by rfl, ?hy46⟩) hHeld ?rest46
            case hy46 => (intro w hSw; clear hSw; go_simp; try with_reducible rfl)
            try simp only [List.getElem_toArray]
            try simp only [List.getElem_cons_succ]
            try simp only [List.getElem_cons_zero]
            try simp only [Act.put]
            try simp only [List.setIfInBounds_toArray]
            try simp only [List.set_cons_succ]
            try simp only [List.set_cons_zero]
            refine wpAnyH_done (by kernel_rfl) ?_ _
            go_wp2_with fail
            go_meet
            exact ⟨yp, a1, c1, rfl, rfl, rfl, hY2, h1, hoff, hyg, hHeld⟩
          · rw [if_pos (by rfl)]
            refine wp_alloc_any zeroRo rfl ?_
            intro yp u4 hY hb hyl hyt
            have hyg := Nat.le_trans hHeld.size hyl
            refine hK.out _ _ (below_next hHeld hb) (fun hHeld => ?_)
            clear hK K hb hyl hyt
            try simp only [List.getElem_toArray]
            try simp only [List.getElem_cons_succ]
            try simp only [List.getElem_cons_zero]
            try simp only [Act.put]
            try simp only [List.setIfInBounds_toArray]
            try simp only [List.set_cons_succ]
            try simp only [List.set_cons_zero]
            refine wpAnyH_ready (rs := [6]) (by kernel_rfl) (by simp) ?_
            refine AllReadyH.cons rfl (fun K hK => ?_) (AllReadyH.nil)
            go_simp
            go_wp2_with (refine (pC _ ((hL.mono (Nat.zero_le _)).below hHeld)).mono ?_; rintro r u5 ⟨⟨a1, c1, rfl, h1⟩, hb⟩)
            have h1x := h1
            replace h1 := h1.mono hHeld.size
            have hyl := hY.lt
            replace hY := hY.below hb
            have hoff : yp ∉ blkOf a1 := fun hm => by have h9 := (h1x.in _ hm).1; omega
            clear hyl
            refine hK.out _ _ (below_next hHeld hb) (fun hHeld => ?_)
            clear hK K hb h1x
            refine wpAnyH_take (i := 7) (v := ?v47) rfl (by kernel_rfl) (by kernel_rfl) (by kernel_rfl) (fun _ _ _ h => h) (Or.inl ⟨by rfl, ?hy47⟩) hHeld ?rest47
            case hy47 => (intro w hSw; clear hSw; go_simp; try with_reducible rfl)
            try simp only [List.getElem_toArray]
            try simp only [List.getElem_cons_succ]
            try simp only [List.getElem_cons_zero]
            try simp only [Act.put]
            try simp only [List.setIfInBounds_toArray]
            try simp only [List.set_cons_succ]
            try simp only [List.set_cons_zero]
            refine wpAnyH_take (i := 8) (v := ?v48) rfl (by kernel_rfl) (by kernel_rfl) (by kernel_rfl) (fun _ _ _ h => h) (Or.inl ⟨by rfl, ?hy48⟩) hHeld ?rest48
            case hy48 => (intro w hSw; clear hSw; go_simp; try with_reducible rfl)
            try simp only [List.getElem_toArray]
            try simp only [List.getElem_cons_succ]
            try simp only [List.getElem_cons_zero]
            try simp only [Act.put]
            try simp only [List.setIfInBounds_toArray]
            try simp only [List.set_cons_succ]
            try simp only [List.set_cons_zero]
            refine wpAnyH_take (i := 9) (v := ?v49) rfl (by kernel_rfl) (by kernel_rfl) (by kernel_rfl) (fun _ _ _ h => h) (Or.inl ⟨by rfl, ?hy49⟩) hHeld ?rest49
            case hy49 => (intro w hSw; clear hSw; go_simp; try with_reducible rfl)
            try simp only [List.getElem_toArray]
            try simp only [List.getElem_cons_succ]
            try simp only [List.getElem_cons_zero]
            try simp only [Act.put]
            try simp only [List.setIfInBounds_toArray]
            try simp only [List.set_cons_succ]
            try simp only [List.set_cons_zero]
            refine wpAnyH_take (i := 10) (v := ?v50) rfl (by kernel_rfl) (by kernel_rfl) (by kernel_rfl) (fun _ _ _ h => h) (Or.inl ⟨by rfl, ?hy50⟩) hHeld ?rest50
            case hy50 => (intro w hSw; clear hSw; go_simp; try with_reducible rfl)
            try simp only [List.getElem_toArray]
            try simp only [List.getElem_cons_succ]
            try simp only [List.getElem_cons_zero]
            try simp only [Act.put]
            try simp only [List.setIfInBounds_toArray]
            try simp only [List.set_cons_succ]
            try simp only [List.set_cons_zero]
            refine wpAnyH_ready (rs := [12]) (by kernel_rfl) (by simp) ?_
            refine AllReadyH.cons rfl (fun K hK => ?_) (AllReadyH.nil)
            rw [if_pos (by rfl)]
            refine wp_store_all 25 _ _ rfl (cells := #[.int .u64 (i1 : Int), .slice a1 n1 c1]) hY rfl rfl sizeRo rfl (ro_one _ _ _ _) ?_
            intro wY hY2 k9
            replace h1 := h1.away k9 hoff
            refine hK.out _ _ (below_at hHeld k9 hyg) (fun hHeld => ?_)
            clear hK K k9 hY
            try simp only [List.getElem_toArray]
            try simp only [List.getElem_cons_succ]
            try simp only [List.getElem_cons_zero]
            try simp only [Act.put]
            try simp only [List.setIfInBounds_toArray]
            try simp only [List.set_cons_succ]
            try simp only [List.set_cons_zero]
            refine wpAnyH_take (i := 13) (v := ?v51) rfl (by kernel_rfl) (by kernel_rfl) (by kernel_rfl) (fun _ _ _ h => h) (Or.inl ⟨by rfl, ?hy51⟩) hHeld ?rest51
            case hy51 => (intro w hSw; clear hSw; go_simp; try with_reducible rfl)
            try simp only [List.getElem_toArray]
            try simp only [List.getElem_cons_succ]
            try simp only [List.getElem_cons_zero]
            try simp only [Act.put]
            try simp only [List.setIfInBounds_toArray]
            try simp only [List.set_cons_succ]
            try simp only [List.set_cons_zero]
            refine wpAnyH_take (i := 14) (v := ?v52) rfl (by kernel_rfl) (by kernel_rfl) (by kernel_rfl) (fun _ _ _ h => h) (Or.inl ⟨by rfl, ?hy52⟩) hHeld ?rest52
            case hy52 => (intro w hSw; clear hSw; go_simp; try with_reducible rfl)
            try simp only [List.getElem_toArray]
            try simp only [List.getElem_cons_succ]
            try simp only [List.getElem_cons_zero]
            try simp only [Act.put]
            try simp only [List.setIfInBounds_toArray]
            try simp only [List.set_cons_succ]
            try simp only [List.set_cons_zero]
            refine wpAnyH_done (by kernel_rfl) ?_ _
            go_wp2_with fail
            go_meet
            exact ⟨yp, a1, c1, rfl, rfl, rfl, hY2, h1, hoff, hyg, hHeld⟩
        case rest =>
          obtain ⟨yp, a1, c1, rfl, rfl, rfl, hY, h1, hoff, hyg, hb⟩ := hcut
          rename World => V1
          have hA1 : ∀ b o, a1 = some ⟨b, o, none⟩ → b ∉ blkOf sa := fun b o e hm => by
            have h8 := (h1.in b (by rw [e]; simp [blkOf])).1
            have h9 := (hs.in b hm).2
            omega
          have hyA : ∀ q ∈ blkOf sa, q ≠ yp := fun q hq e => by have h9 := (hs.in q hq).2; omega
          replace b0 := b0.below hb
          replace hL := hL.below hb
          replace hs := hs.below hb
          replace hMx := hMx.below hb
          replace hB := below_next hB hb
          replace h1 := h1.li.mono hw1
          have hPy : w.heap.size < yp := by have := hw1; omega
          clear hb pC hyg hoff hw1 cD
          have hw1 : w.heap.size + 1 ≤ V1.heap.size := b0.lt
          go_upto_region 26 with fail
          try simp only [Act.put, List.setIfInBounds_toArray, List.set_cons_zero, List.set_cons_succ]
          clear V
          rename World => V
          cases hh : hasS x.i L with
          | false =>
            have hf : fstS x.i L = none := by unfold hasS at hh; cases h : fstS x.i L with | none => rfl | some i => rw [h] at hh; cases hh
            obtain rfl : e1 = 162 := by rw [← he1.out]; unfold sndE; rw [snd_none hf]; rfl
            have rP : ∀ w', (∃ p : Regrown, w' = grow (redrawn V p.d) p.os) → w'.rangeAt w.heap.size 0 [.int .u64 (k : Int), .slice a n c] := fun w' hw => (b0.regrown w' hw).whole
            have cI : ∀ d os, (grow (redrawn V d) os).cell? ⟨b, o + j * 2 + 1, none⟩ = some (.int .u64 (x.i : Int)) := cell_regrown (hMx.rng Rx.vals_length j x hx 1 _ rfl)
            have pH := fun d os => has_ok x.i k L a c (by rw [hn.out]; omega) (grow (redrawn V d) os) ((hL.mono (Nat.zero_le _)).below (below_regrown V d os))
            simp only [hh, hn.out] at pH
            have pH' : ∀ d os, Calls Try.prog 15 #[.agg #[.int .u64 (k : Int), .slice a n c], .int .u64 (x.i : Int)] (grow (redrawn V d) os) fun e w'' => e = .returned (.bool false) ∧ ∃ p : Regrown, w'' = grow (redrawn V p.d) p.os := fun d os => Calls.regrown_of (pH d os)
            clear pH
            refine wp_region_quiet_below (by kernel_rfl) (by kernel_rfl) ?_
            repeat (first
              | (go_big_quiet_want; refine quiet_range (off := 0) rfl rfl rP Try.underlying25 rfl sizeRo ?_; simp only [Act.put, List.setIfInBounds_toArray, List.set_cons_zero, List.set_cons_succ]; go_big_quiet_on)
              | go_big_quiet_step (with_reducible exact pH' _ _))
            refine wpQuiet_nil ?_
            intro _ hw'
            obtain ⟨⟨dq, osq⟩, hw''⟩ := hw'
            have hb := below_regrown V dq osq
            subst hw''
            generalize grow (redrawn V dq) osq = V2 at hb ⊢
            replace b0 := b0.below hb
            replace hL := hL.below hb
            replace hs := hs.below hb
            replace hMx := hMx.below hb
            replace hB := below_next hB hb
            clear rP cI pH'
            clear hb hM1 hi1 he1 hn1 hY h1 hA1 hyA hh hy1 hf
            go_upto_region 35 with fail
            try simp only [Act.put, List.setIfInBounds_toArray, List.set_cons_zero, List.set_cons_succ]
            have HI' : Hid (InvO (j + 1) k L s) := HI.out.more
            have pM := may_ok k L a c (by have := HI'.out.may.1; omega) _ (hL.mono (Nat.zero_le _))
            rw [(mayS_iff _ _).2 HI'.out.may, hn.out] at pM
            have n4 : n ≤ 4 := by rw [← hn.out]; exact HI'.out.may.1
            have hns' : Hid ((s).length = ns) := hns
            go_wp2_with (refine load_blk rfl 25 _ rfl b0 rfl Try.underlying25 rfl sizeRo ?_)
            refine pM.mono ?_
            rintro r w9 ⟨rfl, hb⟩
            replace b0 := b0.below hb
            replace hL := hL.below hb
            replace hs := hs.below hb
            replace hB := below_next hB hb
            have z0 : w9.cell? ⟨w.heap.size, 0, none⟩ = some (.int .u64 (k : Int)) := b0.cell 0 _ rfl
            have z1 : w9.cell? ⟨w.heap.size, 1, none⟩ = some (.slice a n c) := b0.cell 1 _ rfl
            have z2 : ¬ (4 : Int) < (n : Int) := by omega
            have z3 : ((k : Int) != (k : Int)) = false := by simp
            clear hb pM
            go_wp2_with fail
            exact ⟨⟨j + 1, k, a, n, c, sa, ns, sc, L, s, by omega, by omega, by go_num, rfl, rfl, hn, hns', HI', b0, hL, hs, HO, hB⟩, by simp [intOf]; omega⟩
          | true =>
            obtain ⟨i, y, f1, f2, f3, f4⟩ : ∃ i y, fstS x.i L = some i ∧ L[i]? = some y ∧ y.i = x.i ∧ True := by
              rcases fstS_cases x.i L with ⟨h, _⟩ | ⟨i, y, h1, h2, h3⟩
              · unfold hasS at hh; rw [h] at hh; cases hh
              · exact ⟨i, y, h1, h2, h3, trivial⟩
            obtain ⟨g1, g2, g3, g4, g5⟩ := HI.out.send f2 (by omega)
            have hsn : sndS x.i L = some i := by rw [snd_of f1 f2, if_neg (by omega)]
            obtain rfl : e1 = 0 := by rw [← he1.out]; unfold sndE; rw [hsn]; rfl
            obtain rfl : k = i1 := by rw [← hi1.out]; unfold sndI; rw [hsn]; rfl
            have hM2 : M1 = L.set i ⟨y.i, y.n + 1⟩ := by rw [← hM1.out]; unfold sndL; simp only [hsn, f2]
            have hy2 : y1 = y.n + 1 := by rw [← hy1.out]; unfold sndN; simp only [hsn, f2]
            rw [f3] at g2 g3 g4 g5 hM2
            obtain ⟨q, hq⟩ : ∃ q, Hid (x.i = q + 1) := ⟨x.i - 1, by show _ = _; omega⟩
            have hq1 : x.i - 1 = q := by have := hq.out; omega
            rw [hq1] at g4 g5
            have HI2 : Hid (InvO (j + 1) k M1 (s.set q (⟨x.i, y1⟩ : Se))) := by show InvO _ _ _ _; rw [hM2, hy2]; exact g5
            have G4 : Hid (s[q]? = some ⟨x.i, y.n⟩) := g4
            have hy3 : Hid (y.n + 1 = y1) := hy2.symm
            have hqs : q < ns := by rw [← hns.out]; exact (List.getElem?_eq_some_iff.1 g4).1
            have hk200 : k ≤ 200 := by have := HI.out.kj; omega
            have hsk : Hid (ns = k) := by show _ = _; rw [← hns.out]; exact HI.out.sl
            have rP : ∀ w', (∃ p : Regrown, w' = grow (redrawn V p.d) p.os) → w'.rangeAt w.heap.size 0 [.int .u64 (k : Int), .slice a n c] := fun w' hw => (b0.regrown w' hw).whole
            have cI : ∀ d os, (grow (redrawn V d) os).cell? ⟨b, o + j * 2 + 1, none⟩ = some (.int .u64 (x.i : Int)) := cell_regrown (hMx.rng Rx.vals_length j x hx 1 _ rfl)
            have pH := fun d os => has_ok x.i k L a c (by rw [hn.out]; omega) (grow (redrawn V d) os) ((hL.mono (Nat.zero_le _)).below (below_regrown V d os))
            simp only [hh, hn.out] at pH
            have pH' : ∀ d os, Calls Try.prog 15 #[.agg #[.int .u64 (k : Int), .slice a n c], .int .u64 (x.i : Int)] (grow (redrawn V d) os) fun e w'' => e = .returned (.bool true) ∧ ∃ p : Regrown, w'' = grow (redrawn V p.d) p.os := fun d os => Calls.regrown_of (pH d os)
            clear pH
            refine wp_region_quiet_below (by kernel_rfl) (by kernel_rfl) ?_
            repeat (first
              | (go_big_quiet_want; refine quiet_range (off := 0) rfl rfl rP Try.underlying25 rfl sizeRo ?_; simp only [Act.put, List.setIfInBounds_toArray, List.set_cons_zero, List.set_cons_succ]; go_big_quiet_on)
              | go_big_quiet_step (with_reducible exact pH' _ _))
            refine wpQuiet_nil ?_
            intro _ hw'
            obtain ⟨⟨dq, osq⟩, hw''⟩ := hw'
            have hb := below_regrown V dq osq
            subst hw''
            generalize grow (redrawn V dq) osq = V2 at hb ⊢
            replace b0 := b0.below hb
            replace hL := hL.below hb
            replace hs := hs.below hb
            replace hMx := hMx.below hb
            replace hB := below_next hB hb
            clear rP cI pH'
            replace hY := hY.below hb
            replace h1 := h1.below hb
            obtain ⟨g, rfl, hPg, hO⟩ : ∃ g, sa = some ⟨g, 0, none⟩ ∧ w.heap.size + 1 ≤ g ∧ Ow Se.vals 2 41 g sc s V2 := by
              rcases hs with ⟨_, _, rfl⟩ | h
              · have := G4.out; simp at this
              · exact h
            obtain ⟨C, hC, hCs⟩ := hO.blk
            rw [hns.out] at hCs
            have hof : q * 2 + 1 + 1 ≤ C.size := by omega
            have e2 : V2.cell? ⟨g, q * 2 + 1, none⟩ = some (.int .u64 (y.n : Int)) := by
              have := (hO.li (Nat.zero_le g)).rng Se.vals_length q ⟨x.i, y.n⟩ G4.out 1 _ rfl
              rw [Nat.zero_add] at this
              exact this
            have cI : V2.cell? ⟨b, o + j * 2 + 1, none⟩ = some (.int .u64 (x.i : Int)) := hMx.rng Rx.vals_length j x hx 1 _ rfl
            have hbg : b ≠ g := fun e => hbl (by omega)
            have t1 : ¬ (x.i : Int) < 1 := by omega
            have t2 : IntKind.u64.wrap (ns : Int) = (ns : Int) := by rw [IntKind.wrap_u64]; have := hsk.out; omega
            have t3 : ¬ (ns : Int) < (x.i : Int) := by have := hsk.out; omega
            have t4 : IntKind.i64.wrap (x.i : Int) = (x.i : Int) := by rw [IntKind.wrap_i64]; omega
            have t5 : (x.i : Int) - 1 = (q : Int) := by have := hq.out; omega
            have t6 : IntKind.i64.wrap ((x.i : Int) - 1) = (q : Int) := by rw [IntKind.wrap_i64]; have := hq.out; omega
            have t7 : (0 : Int) ≤ (q : Int) := by omega
            have t8 : (q : Int) < (ns : Int) := by omega
            have u1 : IntKind.u64.wrap ((y.n : Int) + 1) = (y1 : Int) := by have := hy3.out; rw [IntKind.wrap_u64]; omega
            clear hb hM1 hi1 he1 hh f1 f2 f3 f4 g1 g2 g3 g4 g5 hsn hM2 hy2 hCs hq1 hy1 hL
            go_upto_region 32 with (go_big_may; refine store_one rfl 22 _ _ rfl (off := q * 2 + 1) (.int .u64 (y1 : Int)) hC (by go_simp) (by go_simp) rfl rfl sizeU64 hof ?_; intro W3 b3 k3)
            try simp only [Act.put, List.setIfInBounds_toArray, List.set_cons_zero, List.set_cons_succ]
            have hO3 := hO.cell1 Se.vals_length (by decide) q ⟨x.i, y.n⟩ G4.out ⟨x.i, y1⟩ (r := 1) (v := .int .u64 (y1 : Int)) rfl (by decide) hC b3
            have e3 : W3.cell? ⟨g, q * 2 + 1, none⟩ = some (.int .u64 (y1 : Int)) := b3.cell (q * 2 + 1) _ (by rw [Array.getElem?_setIfInBounds_self_of_lt (by omega)])
            replace hMx := hMx.kept k3 (fun b' o' e hm => by cases e; simp at hm; exact hbg hm)
            have cJ : W3.cell? ⟨b, o + j * 2 + 1, none⟩ = some (.int .u64 (x.i : Int)) := hMx.rng Rx.vals_length j x hx 1 _ rfl
            replace b0 := b0.kp1 k3 (by omega)
            replace hY := hY.kp1 k3 (fun e => hyA g (by simp [blkOf]) e.symm)
            replace h1 := h1.kept k3 (fun b' o' e hm => hA1 b' o' e (by simpa [blkOf] using hm))
            replace hB := below_at hB k3 (by omega)
            have z9 : ((y1 : Int) != (y1 : Int)) = false := by simp
            clear hO hC k3 e2 hof cI b3 hbg u1
            go_upto_region 35 with (go_big_may; first | refine load_blk rfl 25 _ rfl hY rfl Try.underlying25 rfl sizeRo ?_ | (refine store_all rfl 25 _ _ rfl (cells := #[.int .u64 (k : Int), .slice a1 n1 c1]) b0 rfl rfl sizeRo rfl (ro_one _ _ _ _) ?_; intro W4 b9 k9))
            try simp only [Act.put, List.setIfInBounds_toArray, List.set_cons_zero, List.set_cons_succ]
            clear b0
            have b0 := b9
            have hL := h1.kp k9 (fun q hq => by simp at hq; omega)
            have hs := (Lg.of hO3 hPg : Lg Se.vals 2 41 (w.heap.size + 1) _ sc (s.set q (⟨x.i, y1⟩ : Se)) _).kp k9 (fun q hq => by simp at hq; omega)
            replace hB := below_at hB k9 (Nat.le_refl _)
            clear HO
            have HO : Hid (∀ b o, a1 = some ⟨b, o, none⟩ → b ∉ blkOf (some ⟨g, 0, none⟩)) := hA1
            clear b9 k9 h1 hY hA1 hyA t1 t2 t3 t4 t5 t6 t7 t8 cJ e3 z9 hO3
            have HI' : Hid (InvO (j + 1) k M1 (s.set q (⟨x.i, y1⟩ : Se))) := HI2
            have pM := may_ok k M1 a1 c1 (by have := HI'.out.may.1; omega) _ (hL.mono (Nat.zero_le _))
            rw [(mayS_iff _ _).2 HI'.out.may, hn1.out] at pM
            have n4 : n1 ≤ 4 := by rw [← hn1.out]; exact HI'.out.may.1
            have hns' : Hid (((s.set q (⟨x.i, y1⟩ : Se))).length = ns) := by show _ = _; rw [List.length_set]; exact hns.out
            go_wp2_with (refine load_blk rfl 25 _ rfl b0 rfl Try.underlying25 rfl sizeRo ?_)
            refine pM.mono ?_
            rintro r w9 ⟨rfl, hb⟩
            replace b0 := b0.below hb
            replace hL := hL.below hb
            replace hs := hs.below hb
            replace hB := below_next hB hb
            have z0 : w9.cell? ⟨w.heap.size, 0, none⟩ = some (.int .u64 (k : Int)) := b0.cell 0 _ rfl
            have z1 : w9.cell? ⟨w.heap.size, 1, none⟩ = some (.slice a1 n1 c1) := b0.cell 1 _ rfl
            have z2 : ¬ (4 : Int) < (n1 : Int) := by omega
            have z3 : ((k : Int) != (k : Int)) = false := by simp
            clear hb pM
            go_wp2_with fail
            exact ⟨⟨j + 1, k, a1, n1, c1, (some ⟨g, 0, none⟩), ns, sc, M1, (s.set q (⟨x.i, y1⟩ : Se)), by omega, by omega, by go_num, rfl, rfl, hn1, hns', HI', b0, hL, hs, HO, hB⟩, by simp [intOf]; omega⟩
      have g2 : (x.d == 2) = false := by simpa using h2
      clear h0 h1 h2
      go_upto_region 35 with fail
      try simp only [Act.put, List.setIfInBounds_toArray, List.set_cons_zero, List.set_cons_succ]
      clear g0 g1 g2 cD hMx
      have HI' : Hid (InvO (j + 1) k L s) := HI.out.more
      have pM := may_ok k L a c (by have := HI'.out.may.1; omega) _ (hL.mono (Nat.zero_le _))
      rw [(mayS_iff _ _).2 HI'.out.may, hn.out] at pM
      have n4 : n ≤ 4 := by rw [← hn.out]; exact HI'.out.may.1
      have hns' : Hid ((s).length = ns) := hns
      go_wp2_with (refine load_blk rfl 25 _ rfl b0 rfl Try.underlying25 rfl sizeRo ?_)
      refine pM.mono ?_
      rintro r w9 ⟨rfl, hb⟩
      replace b0 := b0.below hb
      replace hL := hL.below hb
      replace hs := hs.below hb
      replace hB := below_next hB hb
      have z0 : w9.cell? ⟨w.heap.size, 0, none⟩ = some (.int .u64 (k : Int)) := b0.cell 0 _ rfl
      have z1 : w9.cell? ⟨w.heap.size, 1, none⟩ = some (.slice a n c) := b0.cell 1 _ rfl
      have z2 : ¬ (4 : Int) < (n : Int) := by omega
      have z3 : ((k : Int) != (k : Int)) = false := by simp
      clear hb pM
      go_wp2_with fail
      exact ⟨⟨j + 1, k, a, n, c, sa, ns, sc, L, s, by omega, by omega, by go_num, rfl, rfl, hn, hns', HI', b0, hL, hs, HO, hB⟩, by simp [intOf]; omega⟩
    · have j0 : ¬ (j : Int) < (m : Int) ∨ (j : Int) < (m : Int) ∧ ¬ (j : Int) < 200 := by omega
      clear hL hs b0 HO hn hns HI
      rcases j0 with j0 | ⟨j0, j1⟩
      · go_wp2_with fail
        refine (fixed_ok _).mono ?_
        rintro r w9 ⟨rfl, hb⟩
        replace hB := below_next hB hb
        clear hb
        go_wp2_with fail
        go_ret
        exact ⟨rfl, hB⟩
      · go_wp2_with fail
        refine (fixed_ok _).mono ?_
        rintro r w9 ⟨rfl, hb⟩
        replace hB := below_next hB hb
        clear hb
        go_wp2_with fail
        go_ret
        exact ⟨rfl, hB⟩

set_option maxRecDepth 100000 in
theorem lifted (os : Go.Os) (started : os.Started) (H : Type) (enc : TypeId × Value → H) :
    ReturnsInHanded {} Try.checked os 4 .any (Rows.rosterFreshSpec.pre6 enc Try.prog Try.f4 Rows.rosterFreshRow.domain false) (Rows.rosterFreshSpec.post enc Try.prog Try.f4 false true false false) := by
  refine returnsInHanded_of_change_sized (C := Try.checked) own started (by kernel_rfl) Try.func4
    (ChangeSpec.witness6 (enc := enc) (C := Try.checked) false ⟨#[], #[.slice none 0 0], []⟩ 8 (by kernel_rfl) (by kernel_rfl) (by kernel_rfl) (by kernel_rfl)) ?_
  intro W base args ds gs before hval0 hW hcnd hsz0 _
  have hval : ∀ (j : Nat) t v, Try.f4.params[j]? = some t → args[j]? = some v → Value.okWide Try.prog W .any base t v := hval0
  have hsz : (DataW.weightsEach Try.prog (Try.f4.params.toList ++ Rows.rosterFreshSpec.plain.varTypes Try.prog) (ds ++ gs)).all (· ≤ reachBytes) = true := hsz0
  have hW' := hW
  obtain ⟨p, q, hA0, hV, rfl, hfz, hnd⟩ := hW
  have hA : DataW.TrodAll enc Try.prog W 0 (fun _ => true) true Try.f4.params.toList args.toList ds p := hA0
  rw [Try.params4] at hA hval hsz

  obtain ⟨v0, vs0, d0, ds0, p0, q0, hargs, rfl, rfl, h0, r0⟩ := trodAll_cons hA
  obtain ⟨rfl, rfl, rfl⟩ := trodAll_nil r0
  obtain rfl : args = #[v0] := by cases args; simp_all
  obtain ⟨rfl, rfl⟩ := trodVars_none hV
  obtain ⟨la0, L0, lc0, rfl, lz0, hc0, hm0, ls0, hS0⟩ := open_Rxs (okWide_slice Try.underlying37 (hval 0 37 v0 rfl rfl)) (fun n hn => of_decide_eq_true (List.all_eq_true.1 hsz _ (DataW.weights_mem_each (j := 0) rfl rfl n hn))) h0
  have hA2 := hA0
  clear hA0 hval0 hsz0
  simp only [List.append_nil] at hW'
  refine (walk la0 L0 lc0 lz0 hc0 hm0 ls0 W hS0).mono fun e W' ⟨he, bel⟩ => ?_
  subst he
  exact ⟨_, rfl, _, _, _, [], _, [], hW', trodAll_mk1 (shut_bool Try.underlying4 _), (stays_all laidOut bel (by kernel_rfl) hA2), rfl, bel.frame _, fun h => by cases h⟩

theorem over : Rows.rosterFreshRow.holds Try.pinned (OpenSpec.ofChange Rows.rosterFreshSpec) :=
  OpenClaim.holds_of_wide 4 Try.f4 rfl rfl rfl rfl rfl rfl rfl ⟨rfl, rfl, rfl, rfl, rfl⟩ rfl rfl rfl rfl rfl (by kernel_rfl) Try.func4 (by kernel_rfl)
    (of_decide_eq_true (by kernel_rfl)) (by unfold Func.isWrapper; first | (rw [if_pos (by decide +kernel)]; kernel_rfl) | (rw [if_neg (by decide +kernel)]; exact ⟨rfl, rfl⟩))
    (fun os started H enc _ => lifted os started H enc)

end Go.Proofs.Ythhloomoiihfnaa.rosterFresh
namespace Go.Proofs.Ythhloomoiihfnaa

theorem rosterFresh_holds : Rows.RosterFreshSaid := rosterFresh.over
#print axioms rosterFresh_holds

end Go.Proofs.Ythhloomoiihfnaa
