/-
  The program's Add: what any queue is with more entries.
  The places fit; the lists are no longer than memory bears.
-/
import Derived.Test.YtmnpbjaofemelaaQuA
namespace Go.Proofs.Ytmnpbjaofemelaa
set_option maxRecDepth 10000
open Go.RowKit Go.Sort
set_option linter.unusedVariables false
set_option linter.unusedSimpArgs false

theorem zeroUn : (Try.prog.info? 63).map (fun i => (i.zero, i.size)) = some (some (.agg #[]), 0) := by kernel_rfl
theorem sizeUn : (Try.prog.info? 63).map (·.size) = some 0 := by kernel_rfl
theorem zeroUnV (w : World) : (zeroValue 63).run Try.prog w = .ok (.agg #[]) w := by kernel_rfl
theorem elemWt : Try.prog.elem 22 = 47 := by kernel_rfl
theorem sizeOfWt (w : World) : (sizeOf 47).run Try.prog w = .ok 9 w := by kernel_rfl

set_option maxHeartbeats 8000000 in
theorem add_ok (L : List Wt) (hf : ∀ x ∈ L, x.fit) (E : List En) (f : Int) (r : Nat) (hf1 : -9223372036854775808 ≤ f ∧ f ≤ 9223372036854775807) (hr1 : r < 4294967296) (la ea : Option Addr) (lc ec : Nat) (lm : L.length + E.length ≤ 1000000000000) (hc : L.length ≤ lc) (w : World) (hS : Li Wt.vals 0 la L w) (hE : Li En.vals 0 ea E w) :
    Calls Try.prog 12 #[.slice la L.length lc, .int .i64 f, .int .u32 (r : Int), .slice ea E.length ec] w fun e w' => MadeWt (addQ f r 0 E L) w.heap.size e w' ∧ Below w.heap.size w w' := by
  obtain ⟨iI, zI, hI, hz0, hsz, hby, hzs⟩ := infoWt
  have hP := places_ok (H := Unit) L hf la lc (by omega) w hS
  obtain ⟨A, hA⟩ : ∃ A, Hid (addQ f r 0 E L = A) := ⟨_, rfl⟩
  have HA : Hid (addC L f r 0 E [] L = A) := (addQ_code f r E L).symm.trans hA.out
  rw [hA.out]
  obtain ⟨n, hn⟩ : ∃ n, Hid (E.length = n) := ⟨_, rfl⟩
  obtain ⟨q, hq⟩ : ∃ q, Hid (L.length = q) := ⟨_, rfl⟩
  rw [hn.out, hq.out] at lm
  rw [hn.out, hq.out]
  rw [hq.out] at hP hc
  have HS : Hid (Li Wt.vals 0 la L w) := hS
  have HE : Hid (Li En.vals 0 ea E w) := hE
  clear hS hE hA hf
  go_enter Try.func12, Try.ntmps12
  go_wp2_with fail
  refine hP.mono ?_
  rintro e0 w0 ⟨b, rfl, hbz, hK, hB⟩
  have hB1 : w.heap.size ≤ w0.heap.size := hB.size
  have hbl : b < w0.heap.size := hK.lt
  clear hP
  go_wp2_with fail
  go_loopw [10, 11, 23] (fun sv tv iv wr => ∃ (j p m : Nat) (sa : Option Addr) (sc : Nat) (ta : Option Addr) (tc : Nat) (s t : List Wt), j ≤ n ∧ iv = .int .i64 j ∧ sv = .slice sa p sc ∧ tv = .slice ta m tc ∧
      Hid (s.length = p ∧ t.length = m ∧ m ≤ tc) ∧ Hid (p + m ≤ q + j) ∧ Hid (addC L f r j (E.drop j) s t = A) ∧ Lg Wt.vals 9 47 w0.heap.size sa sc s wr ∧ Hid (Li Wt.vals 0 ta t w) ∧ Knows (H := Unit) L b wr ∧ Below w.heap.size w wr ∧ w0.heap.size ≤ wr.heap.size) (fun _ _ iv _ => n - (intOf iv).toNat)
  case atStart => exact ⟨0, 0, q, none, 0, la, lc, [], L, by omega, rfl, rfl, rfl, ⟨rfl, hq.out, hc⟩, by show _ ≤ _; omega, by rw [List.drop_zero]; exact HA, Lg.none _ _ _, HS, hK, hB, Nat.le_refl _⟩
  case round =>
    clear hK hB
    obtain ⟨j, p, m, sa, sc, ta, tc, s, t, hj, rfl, rfl, rfl, HL, HQ, HX, hG, HT, hK, hB, hW⟩ := hrel
    rename World => wr
    by_cases hjn : j < n
    · have j0 : (j : Int) < (n : Int) := by omega
      have j1 : (0 : Int) ≤ (j : Int) := by omega
      obtain ⟨y, hy⟩ : ∃ k, E[j]? = some k := ⟨_, List.getElem?_eq_getElem (by rw [hn.out]; exact hjn)⟩
      obtain ⟨x, hx⟩ : ∃ x : Wt, x = ⟨⟨r, f, (j : Int)⟩, y⟩ := ⟨_, rfl⟩
      have hxf : x.p.fit := by rw [hx]; exact ⟨hr1, hf1, by simp only; omega, by simp only; omega⟩
      have hkey := plKey x.p hxf
      have HD0 : Hid (E.drop j = y :: E.drop (j + 1)) := by
        obtain ⟨h1, rfl⟩ := List.getElem?_eq_some_iff.1 hy
        show _ = _
        rw [List.drop_eq_getElem_cons h1]
      have HSK : Hid (skipQ L x = true → addC L f r (j + 1) (E.drop (j + 1)) s t = A) := fun h => by
        have h2 := HX.out
        rw [HD0.out] at h2
        unfold addC at h2
        rw [← hx, if_pos h] at h2
        exact h2
      have HST : Hid (skipQ L x = false → addC L f r (j + 1) (E.drop (j + 1)) (s ++ t.take (cntQ x.p t) ++ [x]) (t.drop (cntQ x.p t)) = A) := fun h => by
        have h2 := HX.out
        rw [HD0.out] at h2
        unfold addC at h2
        rw [← hx, if_neg (by rw [h]; simp)] at h2
        rw [show (⟨r, f, (j : Int)⟩ : Pl) = x.p by rw [hx]] at h2
        exact h2
      obtain ⟨b', o', rfl, _, hbl', hr⟩ := (HE.out.below hB).at En.vals_length j y hy
      have be := blk_new wr y.arr 45
      have hb := below_box wr (.cells y.arr 45)
      clear HX HD0 hy
      go_upto_region 7 with (first | refine load_range rfl 45 _ rfl y.vals hr rfl Try.underlying45 rfl sizeEn ?_ | refine alloc_zero zeroEn rfl rfl ?_ | refine store_new rfl 45 _ _ rfl (cells := y.arr) rfl rfl sizeEn rfl y.arr_one ?_)
      try simp only [Act.put]
      replace hK := hK.below hb
      replace hG := hG.below hb
      generalize wr.alloc (Obj.cells y.arr 45) = W1 at be hb hK hG ⊢
      replace hB := hB.trans (hb.mono hB.size)
      replace hW := Nat.le_trans hW hb.size
      clear hb hr hbl'
      generalize wr.heap.size = z1 at be ⊢
      have bx := blk_new W1 x.arr 47
      have hb := below_box W1 (.cells x.arr 47)
      go_upto_region 8 with (first | refine load_blk rfl 45 _ rfl be rfl Try.underlying45 rfl sizeEn ?_ | (refine build_as rfl 42 #[(0, .tmp 28), (1, .tmp 29), (2, .tmp 30)] rfl (C := x.p.arr) (by rw [hx]; kernel_rfl) ?_) | (refine build_as rfl 47 #[(0, .tmp 31), (1, .tmp 32)] rfl (C := x.arr) (by rw [hx]; kernel_rfl) ?_) | refine alloc_zero zeroWt rfl rfl ?_ | refine store_new rfl 47 _ _ rfl (cells := x.arr) rfl rfl sizeWt rfl x.arr_one ?_)
      try simp only [Act.put]
      replace hK := hK.below hb
      have hG1 := hG
      replace hG := hG.below hb
      generalize W1.alloc (Obj.cells x.arr 47) = W2 at bx hb hK hG ⊢
      replace hB := hB.trans (hb.mono hB.size)
      replace hW := Nat.le_trans hW hb.size
      clear hb be
      have HBS : Hid (W1.heap.size ∉ blkOf sa) := fun h => by have := (hG1.in _ h).2; omega
      clear hG1
      generalize W1.heap.size = z2 at bx HBS ⊢
      have hK2 := hK
      obtain ⟨D, hown, hD1, hD2⟩ := hK2
      have hhas := hD2 x.p hxf
      clear hD1 hD2
      obtain ⟨v, hv⟩ : ∃ v, hasP x.p L = v := ⟨_, rfl⟩
      rw [hv] at hhas
      have HV : Hid (hasP x.p L = v) := hv
      clear hv hx
      have hb := below_box W2 (.cells #[] 63)
      go_upto_region 9 with (first | refine load_part rfl 42 _ rfl (o := 0) bx rfl x.p.vals x.place Try.underlying42 rfl sizePl ?_ | (at_lookup; refine wpList_lookup_own_unit _ rfl _ _ 61 rfl 42 63 plLaw Try.underlying61 (zeroUnV _) b _ D rfl hown _ _ rfl hkey ?_; rw [hhas]) | refine alloc_zero zeroUn rfl rfl ?_ | refine store_new rfl 63 _ _ rfl (cells := #[]) rfl rfl sizeUn rfl rfl ?_)
      try simp only [Act.put]
      clear hown hhas
      replace hK := hK.below hb
      replace hG := hG.below hb
      replace bx := bx.below hb
      generalize W2.alloc (Obj.cells #[] 63) = W3 at bx hb hK hG ⊢
      replace hB := hB.trans (hb.mono hB.size)
      replace hW := Nat.le_trans hW hb.size
      clear hb
      cases v with
      | true =>
        have hN := HSK.out (by unfold skipQ; rw [HV.out]; rfl)
        have HN : Hid _ := hN
        clear hN HSK HST bx
        go_wp2_with fail
        exact ⟨⟨j + 1, p, m, sa, sc, ta, tc, s, t, by omega, by go_num, rfl, rfl, HL, by have := HQ.out; show _ ≤ _; omega, HN, hG, HT, hK, hB, hW⟩, by simp [intOf]; omega⟩
      | false =>
        have pe := empty_ok x
        obtain ⟨z, hz⟩ : ∃ z, noE x.e = z := ⟨_, rfl⟩
        rw [hz] at pe
        have HZ : Hid (noE x.e = z) := hz
        clear hz
        cases z with
        | true =>
          have hN := HSK.out (by unfold skipQ; rw [HZ.out, Bool.or_true])
          have HN : Hid _ := hN
          clear hN HSK HST
          go_wp2_with (refine load_want rfl 47 _ rfl bx rfl Try.underlying47 rfl sizeWt ?_)
          refine (pe _).mono ?_
          rintro e4 W4 ⟨rfl, hb⟩
          replace hK := hK.below hb
          replace hG := hG.below hb
          replace hB := hB.trans (hb.mono hB.size)
          replace hW := Nat.le_trans hW hb.size
          clear hb pe bx
          go_wp2_with fail
          exact ⟨⟨j + 1, p, m, sa, sc, ta, tc, s, t, by omega, by go_num, rfl, rfl, HL, by have := HQ.out; show _ ≤ _; omega, HN, hG, HT, hK, hB, hW⟩, by simp [intOf]; omega⟩
        | false =>
          have hN := HST.out (by unfold skipQ; rw [HV.out, HZ.out]; rfl)
          have HN : Hid _ := hN
          have hck := cnt_le x.p t
          have pc := fun W h => count_ok x.p t ta tc (by have := HL.out.2.1; have := HQ.out; omega) W h
          obtain ⟨k, hk⟩ : ∃ k, Hid (cntQ x.p t = k) := ⟨_, rfl⟩
          rw [hk.out] at hN HN hck pc
          rw [HL.out.2.1] at hck pc
          clear hN HSK HST HV HZ
          go_wp2_with (refine load_want rfl 47 _ rfl bx rfl Try.underlying47 rfl sizeWt ?_)
          refine (pe _).mono ?_
          rintro e4 W4 ⟨rfl, hb⟩
          replace hK := hK.below hb
          replace hG := hG.below hb
          replace bx := bx.below hb
          replace hB := hB.trans (hb.mono hB.size)
          replace hW := Nat.le_trans hW hb.size
          clear hb pe
          go_wp2_with (refine load_part rfl 42 _ rfl (o := 0) bx rfl x.p.vals x.place Try.underlying42 rfl sizePl ?_)
          refine (pc _ (HT.out.below hB)).mono ?_
          rintro e5 W5 ⟨rfl, hb⟩
          replace hK := hK.below hb
          replace hG := hG.below hb
          replace bx := bx.below hb
          replace hB := hB.trans (hb.mono hB.size)
          replace hW := Nat.le_trans hW hb.size
          clear hb pc
          have k0 : (0 : Int) ≤ (k : Int) := by omega
          have k1 : (k : Int) ≤ (tc : Int) := by have := HL.out.2.2; omega
          have htk : (t.take k).length = k := by rw [List.length_take, HL.out.2.1]; omega
          have hpk : (p + k) * 80 ≤ 140737488355328 ∧ (p + k + 1) * 80 ≤ 140737488355328 := by have := HQ.out; omega
          have hpm : p + k ≤ maxLen ∧ p + k + 1 ≤ maxLen := by have := HQ.out; simp only [maxLen]; omega
          have hsk : (s ++ t.take k).length = p + k := by rw [List.length_append, HL.out.1, htk]
          have hxs := ((HT.out.below hB).take Wt.vals_length k).src (P := Try.prog) Wt.vals_length Wt.vals_one Try.underlying22 tc
          rw [htk] at hxs
          have HCT : Hid (Li Wt.vals 0 (cutA ta tc k 9) (t.drop k) w) := HT.out.cut Wt.vals_length tc k (by rw [HL.out.2.1]; exact HL.out.2.2) (by rw [HL.out.2.1]; exact hck)
          go_wp2_with (first | (refine append_any Wt.vals_length rfl _ _ rfl Try.underlying22 hI hz0 hsz hby hzs hG hW HL.out.1 rfl (M := t.take k) (m := k) htk (by rw [htk]; exact hxs) rfl hpk.1 hpm.1 ?_; intro a6 c6 W6 hG6 hK6 hn6; have bx6 := bx.kp hK6 HBS.out; have hW6 := Nat.le_trans hW hK6.size) | refine load_blk rfl 47 _ rfl bx6 rfl Try.underlying47 rfl sizeWt ?_ | (refine box_Wt rfl _ rfl x rfl ?_; intro W7 hl7 hb7; have hG7 := hG6.below hb7; have hW7 := Nat.le_trans hW6 hb7.size) | (refine append_any Wt.vals_length rfl _ _ rfl Try.underlying22 hI hz0 hsz hby hzs hG7 hW7 hsk rfl (M := [x]) (m := 1) rfl (hl7.src Wt.vals_length Wt.vals_one Try.underlying22 1) rfl hpk.2 hpm.2 ?_; intro a8 c8 W8 hG8 hK8 hn8) | refine cut_any rfl _ _ rfl Try.underlying22 elemWt sizeOfWt hck rfl rfl ?_)
          have hbs : b ∉ blkOf sa := fun h => by have := (hG.in _ h).1; omega
          have hb6 : b ∉ blkOf a6 := fun h => by have := (hG6.in _ h).1; omega
          have hK9 := ((hK.kp hK6 hbs).below hb7).kp hK8 hb6
          have hB6 : Below w.heap.size w W6 := hB.trans (hK6.below (fun i hi => by have := (hG.in _ hi).1; omega) hB.size)
          have hB7 := hB6.trans (hb7.mono hB6.size)
          have hB8 : Below w.heap.size w W8 := hB7.trans (hK8.below (fun i hi => by have := (hG6.in _ hi).1; omega) hB7.size)
          have hW8 := Nat.le_trans hW7 hK8.size
          exact ⟨⟨j + 1, p + k + 1, m - k, a8, c8, cutA ta tc k 9, tc - k, s ++ t.take k ++ [x], t.drop k, by omega, by go_num, rfl, rfl, ⟨by rw [List.length_append, hsk]; rfl, by rw [List.length_drop, HL.out.2.1], by have := HL.out.2.2; omega⟩, by have := HQ.out; show _ ≤ _; omega, HN, hG8, HCT, hK9, hB8, hW8⟩, by simp [intOf]; omega⟩
    · obtain rfl : j = n := by omega
      have hX := HX.out
      rw [List.drop_eq_nil_of_le (by rw [hn.out]; exact Nat.le_refl _)] at hX
      have hst : s ++ t = A := hX
      have hxs := (HT.out.below hB).src (P := Try.prog) Wt.vals_length Wt.vals_one Try.underlying22 tc
      have hpm : (p + m) * 80 ≤ 140737488355328 ∧ p + m ≤ maxLen := by have := HQ.out; simp only [maxLen]; omega
      have hlA : A.length = p + m := by rw [← hst, List.length_append, HL.out.1, HL.out.2.1]
      rw [HL.out.2.1] at hxs
      clear hX HX hK
      go_wp2_with (refine append_any Wt.vals_length rfl _ _ rfl Try.underlying22 hI hz0 hsz hby hzs hG hW HL.out.1 rfl (M := t) (m := m) HL.out.2.1 (by rw [HL.out.2.1]; exact hxs) rfl hpm.1 hpm.2 ?_; intro a6 c6 W6 hG6 hK6 hn6)
      go_ret
      rw [hst] at hG6
      exact ⟨⟨a6, c6, by rw [hlA]; rfl, hG6.mono hB1⟩, hB.trans (hK6.below (fun i hi => by have := (hG.in _ hi).1; omega) hB.size)⟩

end Go.Proofs.Ytmnpbjaofemelaa
