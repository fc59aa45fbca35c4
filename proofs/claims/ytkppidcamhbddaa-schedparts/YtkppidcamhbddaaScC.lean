/-
  The program's Fill: what is taken, what still waits, and the last one.
  The sessions fit; the lists are of at most 300 entries.
-/
import Derived.Test.YtkppidcamhbddaaScB
namespace Go.Proofs.Ytkppidcamhbddaa
set_option maxRecDepth 10000
open Go.RowKit Go.Sort
set_option linter.unusedVariables false

def Filled (F : List En × List En × Nat) (e : Ending) (w' : World) : Prop :=
  ∃ aT cT aR cR, e = .returned (.tuple #[.slice aT F.1.length cT, .slice aR F.2.1.length cR, .int .u64 (F.2.2 : Int)]) ∧ Li En.vals 0 aT F.1 w' ∧ Li En.vals 0 aR F.2.1 w'
theorem many_le (s : Int) (j : Nat) (h : (j : Int) < s) (h16 : j < 16) : j < manyS s := by unfold manyS; omega
theorem many_end (s : Int) (j : Nat) (hj : j ≤ 16) (h0 : (j : Int) ≤ max s 0) (h : ¬ ((j : Int) < s ∧ j < 16)) : manyS s = j := by unfold manyS; omega
theorem erase_cut (L : List En) (i : Nat) : L.take i ++ L.drop (i + 1) = L.eraseIdx i := by rw [List.eraseIdx_eq_take_drop_succ]
set_option maxHeartbeats 16000000 in
theorem fill_ok (L : List En) (l : Nat) (s : Int) (hf : FitS L) (hl : l < 18446744073709551616) (hs : -9223372036854775808 ≤ s ∧ s ≤ 9223372036854775807) (la : Option Addr) (lc : Nat) (lm : L.length ≤ 300) (w : World) (hS : Li En.vals 0 la L w) :
    Calls Try.prog 10 #[.slice la L.length lc, .int .u64 (l : Int), .int .i64 s] w fun e w' => Filled (fillS (manyS s) L l) e w' ∧ Below w.heap.size w w' := by
  obtain ⟨iI, zI, hI, hz0, hsz, hby, hzs⟩ := infoEn
  have hC := eclone_ok L la lc (by omega) w hS
  obtain ⟨n, hn⟩ : ∃ n, Hid (L.length = n) := ⟨_, rfl⟩
  rw [hn.out] at lm hC ⊢
  obtain ⟨F, hF⟩ : ∃ F, Hid (fillS (manyS s) L l = F) := ⟨_, rfl⟩
  rw [hF.out]
  have HFit : Hid (FitS L) := hf
  clear hf hS
  go_enter Try.func10, Try.ntmps10
  go_wp2_with fail
  refine hC.mono ?_
  rintro e W0 ⟨⟨a0, c0, rfl, hG0⟩, hB0⟩
  rw [hn.out]
  clear hC
  go_upto_region 3 with fail
  go_cut [16, 17] from 15 to 17 (fun v u wx => ∃ mi : Int, v = .int .i64 mi ∧ u = .int .i64 0 ∧ ((mi = 16 ∧ 16 < s) ∨ (mi = s ∧ s ≤ 16)) ∧ wx = W0)
  case first =>
    by_cases h16 : 16 < s
    · go_wp2_with fail
      go_meet
      exact ⟨16, rfl, rfl, .inl ⟨rfl, h16⟩, rfl⟩
    · go_wp2_with fail
      go_meet
      exact ⟨s, rfl, rfl, .inr ⟨rfl, by omega⟩, rfl⟩
  case rest =>
    obtain ⟨mi, rfl, rfl, hmi, hW⟩ := ‹∃ mi : Int, _›
    subst hW
    go_wp2_with fail
    go_loopw [1, 9, 10, 17] (fun lv tv rv iv wr => ∃ (j lj pT pR : Nat) (aT : Option Addr) (cT : Nat) (aR : Option Addr) (cR : Nat), j ≤ 16 ∧ (j : Int) ≤ max s 0 ∧ iv = .int .i64 j ∧ lv = .int .u64 (lj : Int) ∧ tv = .slice aT pT cT ∧ rv = .slice aR pR cR ∧
        Hid ((fillS j L l).1.length = pT ∧ (fillS j L l).2.1.length = pR ∧ (fillS j L l).2.2 = lj) ∧ Lg En.vals 6 36 w.heap.size aT cT (fillS j L l).1 wr ∧ Lg En.vals 6 36 w.heap.size aR cR (fillS j L l).2.1 wr ∧ Hid (∀ k ∈ blkOf aT, k ∉ blkOf aR) ∧ Below w.heap.size w wr)
      (fun _ _ _ iv _ => 16 - (intOf iv).toNat)
    case atStart => exact ⟨0, l, 0, n, none, 0, a0, c0, by omega, by omega, rfl, rfl, rfl, rfl, ⟨rfl, hn.out, rfl⟩, Lg.none _ _ _, hG0, by simp [Hid, blkOf], hB0⟩
    case round =>
      clear hG0 hB0
      obtain ⟨j, lj, pT, pR, aT, cT, aR, cR, hj16, hjs, rfl, rfl, rfl, rfl, HL, hT, hR, HD, hB⟩ := hrel
      rename World => wr
      by_cases hjm : (j : Int) < mi
      · have hjl : j < 16 ∧ (j : Int) < s := by omega
        have hFr := fill_fit (l := l) HFit.out j
        by_cases hRe : (fillS j L l).2.1 = []
        · -- nobody waits any more
          have hp0 : pR = 0 := by rw [← HL.out.2.1, hRe]; rfl
          subst hp0
          have hE : Hid (fillS j L l = F) := by
            have hm := many_le s j hjl.2 hjl.1
            have := fill_stop (L := L) (l := l) (manyS s - j) hRe
            rw [show j + (manyS s - j) = manyS s by omega, hF.out] at this
            exact this.symm
          have hTn := turn_ok (fillS j L l).2.1 lj hFr (by rw [← HL.out.2.2]; exact fill_last HFit.out hl j) aR cR (by rw [hRe]; simp) wr (hR.li.mono (Nat.zero_le _))
          rw [hRe] at hTn
          clear hFr hRe hjl
          rw [show turnV (turnS [] lj) = .tuple #[.int .i64 0, .bool false] from rfl] at hTn
          have HFd : Hid (∀ v, Below wr.heap.size wr v → Filled F (.returned (.tuple #[.slice aT pT cT, .slice aR 0 cR, .int .u64 (lj : Int)])) v ∧ Below w.heap.size w v) := fun v hv => by
            refine ⟨?_, hB.trans (hv.mono hB.size)⟩
            obtain ⟨q1, q2, q3⟩ := HL.out
            rw [hE.out] at q1 q2 q3
            have hT2 := (hT.below hv).li.mono (Nat.zero_le w.heap.size)
            have hR2 := (hR.below hv).li.mono (Nat.zero_le w.heap.size)
            rw [hE.out] at hT2 hR2
            exact ⟨aT, cT, aR, cR, by rw [q1, q2, q3], hT2, hR2⟩
          clear HL hT hR HD hB hE
          go_wp2_with fail
          refine hTn.mono ?_
          rintro e w1 ⟨rfl, hb1⟩
          have HZ : Hid _ := HFd.out w1 hb1
          clear HFd hTn hb1
          go_wp2_with fail
          go_ret3
          exact HZ.out
        · -- one is taken
          obtain ⟨i, x, hTu, hx, hst⟩ := fill_step hRe
          have hTn := turn_ok (fillS j L l).2.1 lj hFr (by rw [← HL.out.2.2]; exact fill_last HFit.out hl j) aR cR (by have := (fill_len L l j).2.1; have := hn.out; omega) wr (hR.li.mono (Nat.zero_le _))
          rw [HL.out.2.2] at hTu
          rw [hTu, HL.out.2.1] at hTn
          rw [show turnV (some i) = .tuple #[.int .i64 (i : Int), .bool true] from rfl] at hTn
          have HST : Hid (fillS (j + 1) L l = ((fillS j L l).1 ++ [x], (fillS j L l).2.1.eraseIdx i, x.se)) := hst
          have hi : i < pR := by rw [← HL.out.2.1]; exact (List.getElem?_eq_some_iff.1 hx).1
          obtain ⟨gR, hRa, hRo⟩ : ∃ gR, aR = some ⟨gR, 0, none⟩ ∧ w.heap.size ≤ gR ∧ Ow En.vals 6 36 gR cR (fillS j L l).2.1 wr := by
            rcases hR with ⟨_, _, h⟩ | ⟨g, h1, h2, h3⟩
            · exact absurd h hRe
            · exact ⟨g, h1, h2, h3⟩
          subst hRa
          obtain ⟨hgB, hO⟩ := hRo
          have hln : pT ≤ 16 ∧ pR ≤ 300 := by
            have h1 := fill_len L l j
            rw [HL.out.1, HL.out.2.1, hn.out] at h1
            omega
          have HX : Hid ((fillS j L l).2.1[i]? = some x) := hx
          clear hst hTu hx hFr hRe hR
          go_wp2_with fail
          refine hTn.mono ?_
          rintro e w1 ⟨rfl, hb1⟩
          clear hTn
          have hO1 := hO.below hb1
          have hT1 := hT.below hb1
          have hB1 : Below w.heap.size w w1 := hB.trans (hb1.mono hB.size)
          clear hO hT hB hb1
          have hi0 : (0 : Int) ≤ (i : Int) := by omega
          have hi1 : (i : Int) < (pR : Int) := by omega
          obtain ⟨b, o, hbo, _, hbl, hr⟩ := (hO1.li (Nat.zero_le _)).at En.vals_length i x HX.out
          cases hbo
          have c3 : w1.cell? ⟨gR, 0 + i * 6 + 3, none⟩ = some (.int .u64 (x.se : Int)) := hr 3 _ rfl
          rw [Nat.zero_add] at c3 hr
          go_wp2_with (first | refine load_range rfl 36 _ rfl x.vals hr rfl Try.underlying36 rfl sizeEn ?_ | (refine box_En rfl _ rfl x rfl ?_; intro W2 hl2 hb2; have hT2 := hT1.below hb2; have hO2 := hO1.below hb2; have hB2 := below_next hB1 hb2) | (refine append_any En.vals_length rfl _ _ rfl Try.underlying22 hI hz0 hsz hby hzs hT2 hB2.size HL.out.1 rfl (M := [x]) (m := 1) rfl (hl2.src En.vals_length En.vals_one Try.underlying22 1) rfl (by omega) (by simp only [maxLen]; omega) ?_; intro a3 c4 W3 hG3 hK3 hn3))
          have hgT : gR ∉ blkOf aT := fun h => HD.out gR h (by simp [blkOf])
          have hO3 := hO2.kp hK3 hgT
          have hgl : gR < W2.heap.size := hO2.lt
          have hg3 : gR ∉ blkOf a3 := fun h => by
            rcases hn3 gR h with h | h
            · exact hgT h
            · omega
          have hB3 : Below w.heap.size w W3 := hB2.trans (hK3.below (fun k hk => (hT2.in k hk).1) hB2.size)
          have hDl := edel_ok (fillS j L l).2.1 i (i + 1) (by omega) (by rw [HL.out.2.1]; omega) gR cR W3 hO3
          rw [erase_cut, HL.out.2.1, show (((i + 1 : Nat) : Int)) = (i : Int) + 1 by omega] at hDl
          have hle : ((fillS j L l).2.1.eraseIdx i).length = pR - 1 := by rw [List.length_eraseIdx_of_lt (by rw [HL.out.2.1]; exact hi), HL.out.2.1]
          rw [hle] at hDl
          have HLE : Hid _ := hle
          have hjs2 : ((j + 1 : Nat) : Int) ≤ max s 0 := by omega
          clear hle hO1 hT1 hB1 hO2 hT2 hB2 hK3 hO3 hl2 hb2 hr c3 hbl
          refine hDl.mono ?_
          rintro e W4 ⟨rfl, hO4, hK4⟩
          have hG4 := hG3.away hK4 hg3
          have hB4 : Below w.heap.size w W4 := hB3.trans (hK4.below1 hgB hB3.size)
          clear hDl hG3 hB3 hK4
          have HREL : Hid (Hid ((fillS (j + 1) L l).1.length = pT + 1 ∧ (fillS (j + 1) L l).2.1.length = pR - 1 ∧ (fillS (j + 1) L l).2.2 = x.se) ∧ Lg En.vals 6 36 w.heap.size a3 c4 (fillS (j + 1) L l).1 W4 ∧ Lg En.vals 6 36 w.heap.size (some ⟨gR, 0, none⟩) cR (fillS (j + 1) L l).2.1 W4) := by
            rw [HST.out]
            exact ⟨⟨by rw [List.length_append, HL.out.1]; rfl, HLE.out, rfl⟩, hG4, Lg.of hO4 hgB⟩
          have HD4 : Hid (∀ k ∈ blkOf a3, k ∉ blkOf (some (Addr.mk gR 0 none))) := fun k hk hk2 => by
            simp [blkOf] at hk2
            subst hk2
            exact hg3 hk
          clear hG4 hO4
          go_wp2_with fail
          exact ⟨⟨j + 1, x.se, pT + 1, pR - 1, a3, c4, some ⟨gR, 0, none⟩, cR, by omega, hjs2, by go_num, rfl, rfl, rfl, HREL.out.1, HREL.out.2.1, HREL.out.2.2, HD4, hB4⟩, by simp [intOf]; omega⟩
      · obtain rfl : manyS s = j := many_end s j hj16 hjs (by omega)
        obtain ⟨q1, q2, q3⟩ := HL.out
        rw [hF.out] at q1 q2 q3 hT hR
        have HFd : Hid (Filled F (.returned (.tuple #[.slice aT pT cT, .slice aR pR cR, .int .u64 (lj : Int)])) wr ∧ Below w.heap.size w wr) :=
          ⟨⟨aT, cT, aR, cR, by rw [q1, q2, q3], hT.li.mono (Nat.zero_le _), hR.li.mono (Nat.zero_le _)⟩, hB⟩
        clear HL hT hR HD hB q1 q2 q3
        go_wp2_with fail
        go_ret3
        exact HFd.out

end Go.Proofs.Ytkppidcamhbddaa
