/-
  The others, whether all have promised, whether all are done, as the document says: what each call answers.
  No condition.
-/
import Derived.Test.YthgmecgknhphmaaGaD
import Derived.Test.YthgmecgknhphmaaLsR
namespace Go.Proofs.Ythgmecgknhphmaa
set_option maxRecDepth 10000
open Go.RowKit Go.Sort
set_option linter.unusedVariables false

theorem Li.nat {B b o : Nat} {L : List Nat} {w : World} (h : Li nv B (some ⟨b, o, none⟩) L w) (j d : Nat) (hk : L[j]? = some d) : w.cell? ⟨b, o + j, none⟩ = some (.int .i64 (d : Int)) := by
  obtain ⟨b', o', e, _, _, hr⟩ := h.at nv_length j d hk
  injection e with e
  injection e with e1 e2 e3
  subst e1 e2
  have := hr 0 _ rfl
  simpa using this

set_option maxHeartbeats 4000000 in
theorem rothers_ok (c : Co) (w : World) : Calls Try.prog 88 #[.agg (coc c)] w fun e w' => Oths c.want c.self w.heap.size e w' ∧ Below w.heap.size w w' := by
  have a0 := blk_new w (coc c) 35
  have hB : Below w.heap.size w (w.alloc (.cells (coc c) 35)) := below_box w _
  obtain ⟨iI, zI, hI, hz0, hsz, hby, hzs⟩ := infoInt
  go_enter Try.func88, Try.ntmps88
  go_upto_region 1 with fail
  generalize w.alloc (Obj.cells (coc c) 35) = W at a0 hB ⊢
  go_wp2_with (refine load_part rfl 28 _ rfl (o := 43) a0 rfl (row8 c.want) c.p_want Try.underlying28 rfl sizeMb ?_)
  refine (rlist_ok c.want _).mono ?_
  rintro r w1 ⟨⟨la, lc, rfl, hL⟩, hb⟩
  replace a0 := a0.below hb
  replace hB := hB.trans (hb.mono hB.size)
  clear hb 
  replace hL := hL.mono (Nat.zero_le _)
  have hn8 := lst_len c.want
  obtain ⟨L, HL⟩ : ∃ L, Hid (lst c.want = L) := ⟨_, rfl⟩
  rw [HL.out] at hL hn8 ⊢
  obtain ⟨n, hn⟩ : ∃ n, L.length = n := ⟨_, rfl⟩
  rw [hn] at hn8 ⊢
  have HN : Hid (L.length = n) := hn
  clear hn
  have o1 := Ow.empty (f := nv) (k := 1) (blk_new w1 #[] 3)
  have hb1 : Below w1.heap.size w1 (w1.alloc (.cells #[] 3)) := below_box w1 _
  have c1 := a0.cell 0 (.int .i64 c.self) rfl
  have bsN := bsNone w1
  go_wp2_with fail
  go_loopw [4, 5] (fun lv iv wr => ∃ (j k cap : Nat) (ad : Option Addr), j ≤ n ∧ k ≤ j ∧ iv = .int .i64 j ∧ lv = .slice ad k cap ∧ Hid ((keepN (fun d => decide ((d : Int) = c.self)) (L.take j)).length = k) ∧ Lg nv 1 3 w1.heap.size ad cap (keepN (fun d => decide ((d : Int) = c.self)) (L.take j)) wr ∧ Below w1.heap.size w1 wr) (fun _ iv _ => n - (intOf iv).toNat)
  case atStart => exact ⟨0, 0, 0, _, by omega, by omega, rfl, rfl, rfl, Lg.of o1 (Nat.le_refl _), hb1⟩
  case round =>
    clear o1 hb1 c1 bsN
    obtain ⟨j, k, cap, ad, hj, hkj, rfl, rfl, h0, hg, hb⟩ := hrel
    have c1 := (a0.below hb).cell 0 (.int .i64 c.self) rfl
    by_cases hjn : j < n
    · have j0 : (j : Int) < (n : Int) := by omega
      have j1 : (0 : Int) ≤ (j : Int) := by omega
      obtain ⟨d, hk⟩ : ∃ k, L[j]? = some k := ⟨_, List.getElem?_eq_getElem (by rw [HN.out]; exact hjn)⟩
      obtain ⟨b, o, rfl, _, hbl, hr⟩ := hL.at nv_length j d hk
      have c0 := (hL.below hb).nat j d hk
      have c2 : wr.drew.cell? ⟨b, o + j, none⟩ = some (.int .i64 (d : Int)) := c0
      have hgd := hg.below ((Below.refl wr.heap.size wr).drew)
      have hbd := hb.drew
      obtain ⟨sf, hsf⟩ : ∃ s, c.self = s := ⟨_, rfl⟩
      by_cases hq : (d : Int) = c.self
      · have e := keepN_yes (fun d => decide ((d : Int) = c.self)) d L j hk (by simp [hq])
        have HS : Hid ((keepN (fun d => decide ((d : Int) = c.self)) (L.take (j + 1))).length = k) := by rw [e]; exact h0
        rw [← e] at hgd
        rw [← hq] at c1
        clear h0 hk hr hg hb e hI
        go_wp2_with fail
        go_region
        go_wp2_with fail
        exact ⟨⟨j + 1, k, cap, ad, by omega, by omega, by go_num, rfl, HS, hgd, hbd⟩, by simp [intOf]; omega⟩
      · have e := keepN_no (fun d => decide ((d : Int) = c.self)) d L j hk (by simp [hq])
        have HS : Hid ((keepN (fun d => decide ((d : Int) = c.self)) (L.take (j + 1))).length = k + 1) := by
          show (keepN _ (L.take (j + 1))).length = k + 1
          rw [e, List.length_append, h0.out]; rfl
        have hlen := h0.out
        clear h0 hk hr hg hb
        go_wp2_with fail
        go_region
        go_upto_region 7 with fail
        generalize wr.drew = wd at *
        have hg2 := hgd.below (below_box wd (.cells (nv d).toArray 3))
        have hx := (li_box (f := nv) wd d 3 0 (Nat.zero_le _)).src (P := Try.prog) nv_length nv_one Try.underlying115 1
        have hs2 : w1.heap.size ≤ (wd.alloc (.cells (nv d).toArray 3)).heap.size := by have := hbd.size; simp; omega
        have hb2 : Below w1.heap.size w1 (wd.alloc (.cells (nv d).toArray 3)) := hbd.alloc hbd.size _
        clear hgd
        go_wp2_with (first | refine box_nat rfl _ rfl d rfl ?_ | (refine append_lg nv_length rfl _ _ rfl Try.underlying115 hI hz0 hsz hby hzs hg2 hs2 hlen rfl (M := [d]) (by simp) hx rfl (by simp; omega) (by simp [maxLen]; omega) ?_; intro ad' cap' w5 hg5 hb5; rw [← e] at hg5; have hb6 : Below w1.heap.size w1 w5 := hb2.trans hb5))
        exact ⟨⟨j + 1, k + 1, cap', ad', by omega, by omega, by go_num, rfl, HS, hg5, hb6⟩, by simp [intOf]; omega⟩
    · obtain rfl : j = n := by omega
      have e : L.take j = L := List.take_of_length_le (by rw [HN.out]; omega)
      rw [e, ← HL.out] at h0 hg
      have hfin : Oths c.want c.self w.heap.size (.returned (.slice ad k cap)) wr := ⟨ad, cap, by rw [← h0.out]; rfl, hg.li.mono hB.size⟩
      have hB2 : Below w.heap.size w wr := hB.trans (hb.mono hB.size)
      clear h0 hg hI e c1
      go_wp2_with fail
      go_ret
      exact ⟨hfin, hB2⟩

end Go.Proofs.Ythgmecgknhphmaa
