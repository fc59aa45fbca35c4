/-
  The document's Fill and Sessions: what each call answers.
  The lists are of at most 300 entries.
-/
import Derived.Test.YtkppidcamhbddaaScT
import Derived.Test.YtkppidcamhbddaaScC
import Derived.Test.YtkppidcamhbddaaScS
namespace Go.Proofs.Ytkppidcamhbddaa
set_option maxRecDepth 10000
open Go.RowKit Go.Sort
set_option linter.unusedVariables false

theorem least_head (L : List En) (s : Nat) : leastS s false L = (abvS L s).head? := by
  cases e : leastS s false L with
  | none =>
    cases h : abvS L s with
    | nil => rfl
    | cons a R =>
      obtain ⟨⟨x, hx, hxs⟩, hls⟩ := (abvS_mem L s a).1 (by rw [h]; simp)
      have := leastS_none e x hx
      simp [candS] at this
      omega
  | some m =>
    obtain ⟨⟨x, hx, hxm, hc⟩, g⟩ := leastS_some e
    simp [candS] at hc
    have hm : m ∈ abvS L s := (abvS_mem L s m).2 ⟨⟨x, hx, hxm⟩, by omega⟩
    cases h : abvS L s with
    | nil => rw [h] at hm; cases hm
    | cons a R =>
      have hr := abvS_rise L s
      rw [h] at hr hm
      obtain ⟨⟨y, hy, hys⟩, hls⟩ := (abvS_mem L s a).1 (by rw [h]; simp)
      have h2 := g y hy (by simp [candS]; omega)
      rcases List.mem_cons.1 hm with h3 | h3
      · simp [h3]
      · have := (List.pairwise_cons.1 hr).1 m h3; omega
theorem least_all (L : List En) (b : Nat) : leastS b true L = (sessS L).head? := by
  cases e : leastS b true L with
  | none =>
    cases h : sessS L with
    | nil => rfl
    | cons a R =>
      obtain ⟨x, hx, hxs⟩ := (sessS_mem L a).1 (by rw [h]; simp)
      have := leastS_none e x hx
      simp [candS] at this
  | some m =>
    obtain ⟨⟨x, hx, hxm, hc⟩, g⟩ := leastS_some e
    have hm : m ∈ sessS L := (sessS_mem L m).2 ⟨x, hx, hxm⟩
    cases h : sessS L with
    | nil => rw [h] at hm; cases hm
    | cons a R =>
      have hr := sessS_rise L
      rw [h] at hr hm
      obtain ⟨y, hy, hys⟩ := (sessS_mem L a).1 (by rw [h]; simp)
      have h2 := g y hy (by simp [candS])
      rcases List.mem_cons.1 hm with h3 | h3
      · simp [h3]
      · have := (List.pairwise_cons.1 hr).1 m h3; omega
theorem rem_next {L : List En} {P R : List Nat} {s : Nat} (h : sessS L = P ++ s :: R) : abvS L s = R := by
  have hr := sessS_rise L
  rw [h, List.pairwise_append] at hr
  obtain ⟨_, h2, h3⟩ := hr
  have h2' := List.pairwise_cons.1 h2
  refine rise_eq (abvS_rise _ _) h2'.2 fun x => ?_
  rw [abvS_mem, ← sessS_mem, h]
  constructor
  · rintro ⟨hx, hlt⟩
    rcases List.mem_append.1 hx with hx | hx
    · have := h3 x hx s (by simp); omega
    · rcases List.mem_cons.1 hx with hx | hx
      · omega
      · exact hx
  · intro hx
    exact ⟨List.mem_append.2 (.inr (List.mem_cons_of_mem _ hx)), h2'.1 x hx⟩
theorem sess_len (L : List En) : (sessS L).length ≤ L.length := by
  have h : ∀ (s : Nat) (M : List Nat), (insN s M).length ≤ M.length + 1 := by
    intro s M
    induction M with
    | nil => simp [insN]
    | cons y M ih =>
      unfold insN
      split
      · simp
      · split
        · simp
        · simp only [List.length_cons]; omega
  induction L with
  | nil => simp [sessS]
  | cons e L ih => have := h e.se (sessS L); simp only [sessS, List.foldr_cons, List.length_cons] at *; omega
def lenV : Value → Nat
  | .slice _ n _ => n
  | _ => 0
set_option maxHeartbeats 8000000 in
theorem rsess_ok (L : List En) (la : Option Addr) (lc : Nat) (lm : L.length ≤ 300) (w : World) (hS : Li En.vals 0 la L w) :
    Calls Try.prog 15 #[.slice la L.length lc] w fun e w' => MadeU (sessI L) e w' ∧ Below w.heap.size w w' := by
  obtain ⟨iI, zI, hI, hz0, hsz, hby, hzs⟩ := infoU
  have p := fun (b : Nat) (any : Bool) v hv => least_ok L b any la lc lm v hv
  have hsl := sess_len L
  obtain ⟨n, hn⟩ : ∃ n, Hid (L.length = n) := ⟨_, rfl⟩
  rw [hn.out] at lm p hsl ⊢
  have hsl2 : (sessS L).length ≤ 300 := by omega
  have o0 := Lg.of (Ow.empty (f := encU) (k := 1) (blk_new w #[] 23)) (Nat.le_refl w.heap.size)
  have hB0 := below_box w (.cells #[] 23)
  have p1 := p 0 true _ (hS.below hB0)
  rw [least_all] at p1
  have HP : Hid (∀ (b : Nat) (any : Bool) (v : World), Li En.vals 0 la L v → Calls Try.prog 19 #[.slice la n lc, .int .u64 (b : Int), .bool any] v fun e w' => e = .returned (optV (leastS b any L)) ∧ Below v.heap.size v w') := p
  clear p hsl
  go_enter Try.func15, Try.ntmps15
  go_wp2_with (refine box_U0 rfl rfl ?_)
  refine p1.mono ?_
  rintro e w1 ⟨rfl, hb1⟩
  replace o0 := o0.below hb1
  replace hB0 := hB0.trans (hb1.mono hB0.size)
  clear p1 hb1
  have hst : ∃ (o : Option Nat), (sessS L).head? = o ∧ optV o = .tuple #[.int .u64 ((o.getD 0 : Nat) : Int), .bool o.isSome] := ⟨_, rfl, rfl⟩
  obtain ⟨oo, ho, hov⟩ := hst
  rw [ho, hov]
  have HO : Hid ((sessS L).head? = oo) := ho
  clear ho hov
  go_wp2_with fail
  go_loopw [3, 4, 5] (fun ov sv kv wr => ∃ (P R : List Nat) (o : Option Nat) (q : Nat) (a : Option Addr) (c : Nat), ov = .slice a q c ∧ sv = .int .u64 ((o.getD 0 : Nat) : Int) ∧ kv = .bool o.isSome ∧ Hid (sessS L = P ++ R) ∧ Hid (R.head? = o) ∧ Hid ((P.map fun (n : Nat) => (n : Int)).length = q) ∧ q ≤ 300 ∧ Lg encU 1 23 w.heap.size a c (P.map fun (n : Nat) => (n : Int)) wr ∧ Below w.heap.size w wr)
    (fun ov _ _ _ => 301 - lenV ov)
  case atStart => exact ⟨[], sessS L, oo, 0, _, _, rfl, rfl, rfl, rfl, HO.out, rfl, by omega, o0, hB0⟩
  case round =>
    clear o0 hB0 HO
    obtain ⟨P, R, o, q, a, c, rfl, rfl, rfl, HE, HR, HQ, hq, hG, hB⟩ := hrel
    rename World => wr
    cases R with
    | nil =>
      have h : o = none := HR.out.symm
      subst h
      have HM : Hid (MadeU (sessI L) (.returned (.slice a q c)) wr) := by
        have e := HE.out
        rw [List.append_nil] at e
        unfold sessI
        rw [e]
        exact ⟨a, c, by rw [HQ.out], hG.li.mono (Nat.zero_le _)⟩
      clear hG HQ HE HR
      go_wp2_with fail
      go_ret
      exact ⟨HM.out, hB⟩
    | cons s R =>
      have h : o = some s := HR.out.symm
      subst h
      have hq2 : q < 300 := by
        have h1 := HQ.out
        rw [List.length_map] at h1
        rw [HE.out, List.length_append, List.length_cons] at hsl2
        omega
      have HN : Hid (leastS s false L = R.head?) := by show _ = _; rw [least_head, rem_next HE.out]
      have HS2 : Hid ((P ++ [s]).map (fun (n : Nat) => (n : Int)) = P.map (fun (n : Nat) => (n : Int)) ++ [(s : Int)]) := by show _ = _; rw [List.map_append]; rfl
      have HL2 : Hid (((P ++ [s]).map (fun (n : Nat) => (n : Int))).length = q + 1) := by show _ = _; rw [HS2.out, List.length_append, HQ.out]; rfl
      have hgd : ((some s).getD 0 : Nat) = s := rfl
      go_wp2_with (first | (refine box_U rfl _ rfl (s : Int) rfl ?_; intro W2 hl2 hb2; have hG2 := hG.below hb2; have hB2 := below_next hB hb2) | (refine append_any encU_len rfl _ _ rfl Try.underlying31 hI hz0 hsz hby hzs hG2 hB2.size HQ.out rfl (M := [(s : Int)]) (m := 1) rfl (hl2.src encU_len encU_one Try.underlying31 1) rfl (by omega) (by simp only [maxLen]; omega) ?_; intro a3 c4 W3 hG3 hK3 _))
      have hB3 : Below w.heap.size w W3 := hB2.trans (hK3.below (fun k hk => (hG2.in k hk).1) hB2.size)
      have p2 := HP.out s false W3 (hS.below hB3)
      rw [HN.out] at p2
      refine p2.mono ?_
      rintro e w4 ⟨rfl, hb4⟩
      have hG4 := hG3.below hb4
      have hB4 : Below w.heap.size w w4 := hB3.trans (hb4.mono hB3.size)
      obtain ⟨o2, ho2⟩ : ∃ o2, R.head? = o2 := ⟨_, rfl⟩
      rw [ho2, show optV o2 = .tuple #[.int .u64 ((o2.getD 0 : Nat) : Int), .bool o2.isSome] from rfl]
      have HO2 : Hid (R.head? = o2) := ho2
      clear ho2 p2 hG hG2 hG3 hB hB2 hB3 hK3 hl2 hb2 hb4 hgd
      go_wp2_with fail
      exact ⟨⟨P ++ [s], R, o2, q + 1, a3, c4, rfl, rfl, rfl, by rw [HE.out]; simp [Hid], HO2.out, HL2.out, by omega, by rw [HS2.out]; exact hG4, hB4⟩, by simp [lenV]; omega⟩

set_option maxHeartbeats 16000000 in
theorem rfill_ok (L : List En) (l : Nat) (s : Int) (hs : -9223372036854775808 ≤ s ∧ s ≤ 9223372036854775807) (la : Option Addr) (lc : Nat) (lm : L.length ≤ 300) (hlc : L.length ≤ lc) (w : World) (hS : Li En.vals 0 la L w) :
    Calls Try.prog 11 #[.slice la L.length lc, .int .u64 (l : Int), .int .i64 s] w fun e w' => Filled (fillS (manyS s) L l) e w' ∧ Below w.heap.size w w' := by
  obtain ⟨iI, zI, hI, hz0, hsz, hby, hzs⟩ := infoEn
  obtain ⟨n, hn⟩ : ∃ n, Hid (L.length = n) := ⟨_, rfl⟩
  rw [hn.out] at lm hlc ⊢
  obtain ⟨F, hF⟩ : ∃ F, Hid (fillS (manyS s) L l = F) := ⟨_, rfl⟩
  rw [hF.out]
  have o0 := Lg.of (Ow.empty (f := En.vals) (k := 6) (blk_new w #[] 36)) (Nat.le_refl w.heap.size)
  have hB0 := below_box w (.cells #[] 36)
  have hS0 := hS.below hB0
  have HD0 : Hid (L = [] ∨ ∀ b q, la = some ⟨b, q, none⟩ → b ∉ blkOf (some (Addr.mk w.heap.size 0 none))) := by
    rcases hS with h | ⟨b, q, h1, _, h2, _⟩
    · exact .inl h
    · refine .inr fun b' q' h3 h4 => ?_
      rw [h1] at h3
      cases h3
      simp [blkOf] at h4
      omega
  clear hS
  go_enter Try.func11, Try.ntmps11
  go_wp2_with (refine box_En0 rfl rfl ?_)
  go_loopw [0, 1, 9, 10] (fun rv lv tv iv wr => ∃ (j lj pT pR : Nat) (aT : Option Addr) (cT : Nat) (aR : Option Addr) (cR : Nat), j ≤ 16 ∧ (j : Int) ≤ max s 0 ∧ iv = .int .i64 j ∧ lv = .int .u64 (lj : Int) ∧ tv = .slice aT pT cT ∧ rv = .slice aR pR cR ∧ pR ≤ cR ∧
      Hid ((fillS j L l).1.length = pT ∧ (fillS j L l).2.1.length = pR ∧ (fillS j L l).2.2 = lj) ∧ Lg En.vals 6 36 w.heap.size aT cT (fillS j L l).1 wr ∧ Li En.vals 0 aR (fillS j L l).2.1 wr ∧ Hid ((fillS j L l).2.1 = [] ∨ ∀ b q, aR = some ⟨b, q, none⟩ → b ∉ blkOf aT) ∧ Below w.heap.size w wr)
    (fun _ _ _ iv _ => 16 - (intOf iv).toNat)
  case atStart => exact ⟨0, l, 0, n, _, _, la, lc, by omega, by omega, rfl, rfl, rfl, rfl, hlc, ⟨rfl, hn.out, rfl⟩, o0, hS0, HD0, hB0⟩
  case round =>
    clear o0 hS0 HD0 hB0
    obtain ⟨j, lj, pT, pR, aT, cT, aR, cR, hj16, hjs, rfl, rfl, rfl, rfl, hcR, HL, hT, hR, HD, hB⟩ := hrel
    rename World => wr
    by_cases hjm : (j : Int) < s ∧ j < 16
    · have d1 : (j : Int) < s := hjm.1
      have d2 : (j : Int) < 16 := by omega
      by_cases hRe : (fillS j L l).2.1 = []
      · have hp0 : pR = 0 := by rw [← HL.out.2.1, hRe]; rfl
        subst hp0
        have hE : Hid (fillS j L l = F) := by
          have hm := many_le s j hjm.1 hjm.2
          have := fill_stop (L := L) (l := l) (manyS s - j) hRe
          rw [show j + (manyS s - j) = manyS s by omega, hF.out] at this
          exact this.symm
        have hTn := rturn_ok (fillS j L l).2.1 lj aR cR (by rw [hRe]; simp) wr hR
        rw [hRe] at hTn
        rw [show turnV (turnS [] lj) = .tuple #[.int .i64 0, .bool false] from rfl] at hTn
        have HFd : Hid (∀ v, Below wr.heap.size wr v → Filled F (.returned (.tuple #[.slice aT pT cT, .slice aR 0 cR, .int .u64 (lj : Int)])) v ∧ Below w.heap.size w v) := fun v hv => by
          refine ⟨?_, hB.trans (hv.mono hB.size)⟩
          obtain ⟨q1, q2, q3⟩ := HL.out
          rw [hE.out] at q1 q2 q3
          have hT2 := (hT.below hv).li.mono (Nat.zero_le w.heap.size)
          have hR2 := hR.below hv
          rw [hE.out] at hT2 hR2
          exact ⟨aT, cT, aR, cR, by rw [q1, q2, q3], hT2, hR2⟩
        clear HL hT hR HD hB hE hRe hjm
        go_wp2_with fail
        refine hTn.mono ?_
        rintro e w1 ⟨rfl, hb1⟩
        have HZ : Hid _ := HFd.out w1 hb1
        clear HFd hTn hb1
        go_wp2_with fail
        go_ret3
        exact HZ.out
      · obtain ⟨i, x, hTu, hx, hst⟩ := fill_step hRe
        have hTn := rturn_ok (fillS j L l).2.1 lj aR cR (by have := (fill_len L l j).2.1; have := hn.out; omega) wr hR
        rw [HL.out.2.2] at hTu
        rw [hTu, HL.out.2.1] at hTn
        rw [show turnV (some i) = .tuple #[.int .i64 (i : Int), .bool true] from rfl] at hTn
        have HST : Hid (fillS (j + 1) L l = ((fillS j L l).1 ++ [x], (fillS j L l).2.1.eraseIdx i, x.se)) := hst
        have hi : i < pR := by rw [← HL.out.2.1]; exact (List.getElem?_eq_some_iff.1 hx).1
        have hln : pT ≤ 16 ∧ pR ≤ 300 := by
          have h1 := fill_len L l j
          rw [HL.out.1, HL.out.2.1, hn.out] at h1
          omega
        have HX : Hid ((fillS j L l).2.1[i]? = some x) := hx
        have HDb : Hid (∀ b q, aR = some ⟨b, q, none⟩ → b ∉ blkOf aT) := by
          rcases HD.out with h | h
          · exact absurd h hRe
          · exact h
        have hjs2 : ((j + 1 : Nat) : Int) ≤ max s 0 := by omega
        clear hst hTu hx hRe HD hjm
        go_wp2_with fail
        refine hTn.mono ?_
        rintro e w1 ⟨rfl, hb1⟩
        clear hTn
        have hR1 := hR.below hb1
        have hT1 := hT.below hb1
        have hB1 : Below w.heap.size w w1 := hB.trans (hb1.mono hB.size)
        clear hR hT hB hb1
        have hi0 : (0 : Int) ≤ (i : Int) := by omega
        have hi1 : (i : Int) < (pR : Int) := by omega
        obtain ⟨b, o, rfl, _, hbl, hr⟩ := hR1.at En.vals_length i x HX.out
        have hbT : b ∉ blkOf aT := HDb.out b o rfl
        have b1 := blk_new w1 x.arr 36
        have hb := below_box w1 (.cells x.arr 36)
        go_upto_region 8 with (go_big_may; first | refine load_range rfl 36 _ rfl x.vals hr rfl Try.underlying36 rfl sizeEn ?_ | refine alloc_zero zeroEn rfl rfl ?_ | refine store_new rfl 36 _ _ rfl (cells := x.arr) rfl rfl sizeEn rfl x.arr_one ?_)
        try simp only [Act.put]
        have hzT : w1.heap.size ∉ blkOf aT := fun h => by have := (hT1.in _ h).2; omega
        generalize w1.alloc (Obj.cells x.arr 36) = V at b1 hb ⊢
        have hTv := hT1.below hb
        have hRv := hR1.below hb
        have hBv : Below w.heap.size w V := hB1.trans (hb.mono hB1.size)
        clear hR1 hT1 hB1 hb hr
        generalize w1.heap.size = z at b1 hzT ⊢
        go_upto_region 9 with (go_big_may; first | refine load_blk rfl 36 _ rfl b1 rfl Try.underlying36 rfl sizeEn ?_ | (refine box_En rfl _ rfl x rfl ?_; intro W2 hl2 hb2; have hT2 := hTv.below hb2; have hR2 := hRv.below hb2; have hB2 := below_next hBv hb2; have bz2 := b1.below hb2) | (refine append_any En.vals_length rfl _ _ rfl Try.underlying22 hI hz0 hsz hby hzs hT2 hB2.size HL.out.1 rfl (M := [x]) (m := 1) rfl (hl2.src En.vals_length En.vals_one Try.underlying22 1) rfl (by omega) (by simp only [maxLen]; omega) ?_; intro a3 c4 W3 hG3 hK3 hn3))
        try simp only [Act.put]
        have bz3 := bz2.kp hK3 hzT
        have hR3 := hR2.kept hK3 (fun b' q' h => by cases h; exact hbT)
        have hB3 : Below w.heap.size w W3 := hB2.trans (hK3.below (fun k hk => (hT2.in k hk).1) hB2.size)
        have c3 : W3.cell? ⟨z, 3, none⟩ = some (.int .u64 (x.se : Int)) := bz3.cell 3 _ rfl
        have hb3 : b < W3.heap.size := by
          have := hbl
          have h1 := hB2.size
          have h2 := hK3.size
          rcases hR3 with h | ⟨b', o', h, _, h5, _⟩
          · have := HX.out; rw [h] at this; simp at this
          · cases h; exact h5
        have hi3 : (i : Int) ≤ (cR : Int) := by omega
        have hlt1 : ((fillS j L l).2.1.take i).length = i := by rw [List.length_take, HL.out.2.1]; omega
        have hlt2 : ((fillS j L l).2.1.drop (i + 1)).length = pR - (i + 1) := by rw [List.length_drop, HL.out.2.1]
        have HT1 : Hid _ := hlt1
        have HT2 : Hid _ := hlt2
        have o4 := Lg.of (Ow.empty (f := En.vals) (k := 6) (blk_new W3 #[] 36)) (Nat.le_refl W3.heap.size)
        have hB4 := below_box W3 (.cells #[] 36)
        have hR4 := hR3.below hB4
        clear hlt1 hlt2 hTv hT2 hRv hR2 hBv hB2 hK3 bz2 b1 hl2 hb2
        have hx4 := (hR4.take En.vals_length i).src (P := Try.prog) En.vals_length En.vals_one Try.underlying22 cR
        rw [HT1.out] at hx4
        go_upto_region 11 with (go_big_may; first | refine box_En0 rfl rfl ?_ | (refine append_any En.vals_length rfl _ _ rfl Try.underlying22 hI hz0 hsz hby hzs o4 hB4.size (n := 0) rfl rfl (M := (fillS j L l).2.1.take i) (m := i) HT1.out (by rw [HT1.out]; exact hx4) rfl (by omega) (by simp only [maxLen]; omega) ?_; intro a5 c5 W5 hG5 hK5 hn5))
        try simp only [Act.put]
        rw [List.nil_append] at hG5
        have hR5 := hR4.kept hK5 (fun b' q' h => by cases h; simp [blkOf]; omega)
        have hx5 := (hR5.cut En.vals_length cR (i + 1) (by rw [HL.out.2.1]; exact hcR) (by rw [HL.out.2.1]; omega)).src (P := Try.prog) En.vals_length En.vals_one Try.underlying22 (cR - (i + 1))
        rw [HT2.out] at hx5
        have hB35 : Below W3.heap.size W3 W5 := hB4.trans (hK5.below (fun k hk => by simp [blkOf] at hk; omega) hB4.size)
        have h0i : ((fillS j L l).2.1.take i).length = i := HT1.out
        clear hR4 hx4 o4 hB4 hK5 hn5
        go_wp2_with (first | (refine cut_any rfl _ _ rfl Try.underlying22 elemEn sizeOfEn (i := i + 1) (by omega) rfl (by first | rfl | simp) ?_) | (refine append_any En.vals_length rfl _ _ rfl Try.underlying22 hI hz0 hsz hby hzs hG5 hB35.size h0i rfl (M := (fillS j L l).2.1.drop (i + 1)) (m := pR - (i + 1)) HT2.out (by rw [HT2.out]; exact hx5) rfl (by omega) (by simp only [maxLen]; omega) ?_; intro a6 c6 W6 hG6 hK6 hn6))
        have hB36 : Below W3.heap.size W3 W6 := hB35.trans (hK6.below (fun k hk => (hG5.in k hk).1) hB35.size)
        have hle : ((fillS j L l).2.1.eraseIdx i).length = pR - 1 := by rw [List.length_eraseIdx_of_lt (by rw [HL.out.2.1]; exact hi), HL.out.2.1]
        rw [erase_cut] at hG6
        have hcp := hG6.cap
        rw [hle] at hcp
        have hD6 : (fillS (j + 1) L l).2.1 = [] ∨ ∀ b q, a6 = some ⟨b, q, none⟩ → b ∉ blkOf a3 := .inr fun b' q' h h2 => by
          subst h
          have h3 := (hG6.in b' (by simp [blkOf])).1
          have h4 := (hG3.in b' h2).2
          omega
        refine ⟨⟨j + 1, x.se, pT + 1, pR - 1, a3, c4, a6, c6, by omega, hjs2, by go_num, rfl, rfl, ?_, by omega, ?_, ?_, ?_, hD6, hB3.trans (hB36.mono hB3.size)⟩, by simp [intOf]; omega⟩
        · congr 1; omega
        · rw [HST.out]; exact ⟨by rw [List.length_append, HL.out.1]; rfl, hle, rfl⟩
        · rw [HST.out]; exact hG3.below hB36
        · rw [HST.out]; exact hG6.li.mono (Nat.zero_le _)
    · obtain rfl : manyS s = j := many_end s j hj16 hjs hjm
      obtain ⟨q1, q2, q3⟩ := HL.out
      rw [hF.out] at q1 q2 q3 hT hR
      have HFd : Hid (Filled F (.returned (.tuple #[.slice aT pT cT, .slice aR pR cR, .int .u64 (lj : Int)])) wr ∧ Below w.heap.size w wr) :=
        ⟨⟨aT, cT, aR, cR, by rw [q1, q2, q3], hT.li.mono (Nat.zero_le _), hR⟩, hB⟩
      clear HL hT hR HD hB q1 q2 q3
      by_cases hm1 : ((manyS s : Nat) : Int) < s
      · have hm2 : ¬ ((manyS s : Nat) : Int) < 16 := by omega
        go_wp2_with fail
        go_ret3
        exact HFd.out
      · go_wp2_with fail
        go_ret3
        exact HFd.out

end Go.Proofs.Ytkppidcamhbddaa
