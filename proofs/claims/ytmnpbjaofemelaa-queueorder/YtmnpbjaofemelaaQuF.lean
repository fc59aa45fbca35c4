/-
  The document's Add: what any queue is with more entries.
  The lists are no longer than memory bears.
-/
import Derived.Test.YtmnpbjaofemelaaQuE
namespace Go.Proofs.Ytmnpbjaofemelaa
set_option maxRecDepth 10000
open Go.RowKit Go.Sort
set_option linter.unusedVariables false
set_option linter.unusedSimpArgs false

/- What the document's second loop makes: laid: is it laid already? -/
def layQ (x : Wt) (v : Bool) (q : List Wt) : List Wt := if v = true then q else insQ x q
theorem lay_at (x : Wt) (v : Bool) (q : List Wt) (k : Nat) (y : Wt) (h : q[k]? = some y) : layQ x v (q.drop k) = (if (!v && befB x.p y.p) = true then [x] else []) ++ y :: layQ x (v || befB x.p y.p) (q.drop (k + 1)) := by
  obtain ⟨hj, rfl⟩ := List.getElem?_eq_some_iff.1 h
  rw [List.drop_eq_getElem_cons hj]
  unfold layQ
  cases v with
  | true => rfl
  | false =>
    conv => lhs; unfold insQ
    cases befB x.p q[k].p <;> simp
theorem lay_end (x : Wt) (v : Bool) : layQ x v [] = if v = true then [] else [x] := by cases v <;> rfl

set_option maxHeartbeats 16000000 in
theorem radd_okB (B : Nat) (L : List Wt) (E : List En) (f : Int) (r : Nat) (la ea : Option Addr) (lc ec : Nat) (lm : L.length + E.length ≤ 1000000000000) (w : World) (hBw : B ≤ w.heap.size) (hS : Li Wt.vals B la L w) (hE : Li En.vals 0 ea E w) :
    Calls Try.prog 13 #[.slice la L.length lc, .int .i64 f, .int .u32 (r : Int), .slice ea E.length ec] w fun e w' => (∃ a c, e = .returned (.slice a (addQ f r 0 E L).length c) ∧ Li Wt.vals B a (addQ f r 0 E L) w') ∧ Below w.heap.size w w' := by
  obtain ⟨iI, zI, hI, hz0, hsz, hby, hzs⟩ := infoWt
  obtain ⟨A, hA⟩ : ∃ A, Hid (addQ f r 0 E L = A) := ⟨_, rfl⟩
  rw [hA.out]
  obtain ⟨n, hn⟩ : ∃ n, Hid (E.length = n) := ⟨_, rfl⟩
  obtain ⟨q, hq⟩ : ∃ q, Hid (L.length = q) := ⟨_, rfl⟩
  rw [hn.out, hq.out] at lm
  rw [hn.out, hq.out]
  have HE : Hid (Li En.vals 0 ea E w) := hE
  clear hE
  go_enter Try.func13, Try.ntmps13
  go_wp2_with fail
  go_loopw [0, 9] (fun qv iv wr => ∃ (j p : Nat) (qa : Option Addr) (qc : Nat) (Q : List Wt), j ≤ n ∧ iv = .int .i64 j ∧ qv = .slice qa p qc ∧ Hid (Q.length = p) ∧ Hid (p ≤ q + j) ∧ Hid (addQ f r j (E.drop j) Q = A) ∧ Li Wt.vals B qa Q wr ∧ Below w.heap.size w wr) (fun _ iv _ => n - (intOf iv).toNat)
  case atStart => exact ⟨0, q, la, lc, L, by omega, rfl, rfl, hq, by show _ ≤ _; omega, by rw [List.drop_zero]; exact hA, hS, Below.refl _ _⟩
  case round =>
    clear hS hA
    obtain ⟨j, p, qa, qc, Q, hj, rfl, rfl, HL, HQ, HX, hS, hB⟩ := hrel
    rename World => wr
    have j1 : (0 : Int) ≤ (j : Int) := by omega
    by_cases hjn : j < n
    · have j0 : (j : Int) < (n : Int) := by omega
      obtain ⟨y, hy⟩ : ∃ k, E[j]? = some k := ⟨_, List.getElem?_eq_getElem (by rw [hn.out]; exact hjn)⟩
      have HD0 : Hid (E.drop j = y :: E.drop (j + 1)) := by
        obtain ⟨h1, rfl⟩ := List.getElem?_eq_some_iff.1 hy
        show _ = _
        rw [List.drop_eq_getElem_cons h1]
      obtain ⟨x, hx⟩ : ∃ x : Wt, x = ⟨⟨r, f, (j : Int)⟩, y⟩ := ⟨_, rfl⟩
      obtain ⟨z, hz⟩ : ∃ z, noE y = z := ⟨_, rfl⟩
      have HSK : Hid (addQ f r (j + 1) (E.drop (j + 1)) (if z = true then Q else addQ1 x Q) = A) := by
        have h2 := HX.out
        rw [HD0.out] at h2
        unfold addQ at h2
        rw [hz, ← hx] at h2
        exact h2
      have kE : ∀ w, (binOp .eql 45 (.agg y.vals.toArray) (.agg En.zero.arr)).run Try.prog w = .ok (.bool z) w := eqlEn y En.zero z hz
      have HX9 : Hid (x = ⟨⟨r, f, (j : Int)⟩, y⟩) := hx
      obtain ⟨b, o, rfl, _, hbl, hr⟩ := (HE.out.below hB).at En.vals_length j y hy
      have HY : Hid (E[j]? = some y) := hy
      clear HX HD0 hy hz hx hbl
      cases z with
      | true =>
        go_wp2_with (first | refine load_range rfl 45 _ rfl y.vals hr rfl Try.underlying45 rfl sizeEn ?_ | refine build_zero builtEn rfl rfl ?_)
        exact ⟨⟨j + 1, p, qa, qc, Q, by omega, by go_num, rfl, HL, by have := HQ.out; show _ ≤ _; omega, HSK.out, hS, hB⟩, by simp [intOf]; omega⟩
      | false =>
        have HA1 : Hid (addQ f r (j + 1) (E.drop (j + 1)) (addQ1 x Q) = A) := HSK.out
        obtain ⟨W4, hW4⟩ : ∃ W4, W4 = wr := ⟨_, rfl⟩
        rw [← hW4] at hr hS hB ⊢
        clear hW4
        have bx := blk_new W4 x.arr 47
        have hb := below_box W4 (.cells x.arr 47)
        have bo := blk_new (W4.alloc (.cells x.arr 47)) #[] 47
        have hb2 := below_box (W4.alloc (.cells x.arr 47)) (.cells #[] 47)
        clear HSK
        go_upto_region 7 with (first | refine build_zero builtEn rfl rfl ?_ | refine load_range rfl 45 _ rfl y.vals hr rfl Try.underlying45 rfl sizeEn ?_ | (refine build_as rfl 42 #[(0, .tmp 27), (1, .tmp 28), (2, .tmp 29)] rfl (C := x.p.arr) (by rw [HX9.out]; kernel_rfl) ?_) | (refine build_as rfl 47 #[(0, .tmp 30), (1, .tmp 34)] rfl (C := x.arr) (by rw [HX9.out]; kernel_rfl) ?_) | refine alloc_zero zeroWt rfl rfl ?_ | refine store_new rfl 47 _ _ rfl (cells := x.arr) rfl rfl sizeWt rfl x.arr_one ?_ | refine box_Wt0 rfl rfl ?_)
        try simp only [Act.put]
        have bx2 := bx.below hb2
        have hS2 := (hS.below hb).below hb2
        have hB2 := hB.trans ((hb.trans (hb2.mono hb.size)).mono hB.size)
        have HB9 : Hid ((W4.alloc (.cells x.arr 47)).heap.size < ((W4.alloc (.cells x.arr 47)).alloc (.cells #[] 47)).heap.size) := by show _ < _; simp
        have hsz4 : (W4.alloc (.cells x.arr 47)).heap.size = W4.heap.size + 1 := by simp
        have hG0 : Lg Wt.vals 9 47 (W4.alloc (.cells x.arr 47)).heap.size (some ⟨W4.heap.size + 1, 0, none⟩) 0 [] ((W4.alloc (.cells x.arr 47)).alloc (.cells #[] 47)) := by
          rw [hsz4] at bo ⊢
          exact Lg.of (Ow.empty bo) (Nat.le_refl _)
        clear hsz4
        have hC0 : Below (W4.alloc (.cells x.arr 47)).heap.size (W4.alloc (.cells x.arr 47)) ((W4.alloc (.cells x.arr 47)).alloc (.cells #[] 47)) := hb2
        have hS1 := hS.below hb
        have hB1 := hB.trans (hb.mono hB.size)
        clear hS hB hS2 hB2 bx2 hb bo hb2 hr
        generalize (W4.alloc (.cells x.arr 47)).alloc (.cells #[] 47) = V0 at hG0 hC0 HB9 ⊢
        generalize W4.alloc (.cells x.arr 47) = U1 at hG0 hC0 HB9 bx hS1 hB1 ⊢
        generalize W4.heap.size = z1 at bx hG0 ⊢
        have hpm : p ≤ 1000000000000 := by have := HQ.out; omega
        have HS1 : Hid (Li Wt.vals B qa Q U1) := hS1
        have HBX : Hid (Blk z1 x.arr 47 U1) := bx
        have HB1 : Hid (Below w.heap.size w U1) := hB1
        clear hS1 bx hB1
        go_wp2_with fail
        go_loopw [12, 13] (fun lv kv wr => ∃ k : Nat, k ≤ p ∧ kv = .int .i64 k ∧ lv = .bool (hasP x.p (Q.take k)) ∧ Lg Wt.vals 9 47 U1.heap.size (some ⟨z1 + 1, 0, none⟩) 0 [] wr ∧ Below U1.heap.size U1 wr ∧ U1.heap.size ≤ wr.heap.size) (fun _ kv _ => p - (intOf kv).toNat)
        case atStart => exact ⟨0, by omega, rfl, rfl, hG0, hC0, by have := HB9.out; omega⟩
        case round =>
          clear hG0 hC0 HB9
          obtain ⟨k, hk, rfl, rfl, hG, hC, hW⟩ := hrel
          rename World => wr
          have k1 : (0 : Int) ≤ (k : Int) := by omega
          by_cases hkp : k < p
          · have k0 : (k : Int) < (p : Int) := by omega
            obtain ⟨e, he⟩ : ∃ e, Q[k]? = some e := ⟨_, List.getElem?_eq_getElem (by rw [HL.out]; exact hkp)⟩
            have HN : Hid (hasP x.p (Q.take (k + 1)) = (hasP x.p (Q.take k) || Pl.same e.p x.p)) := hasP_next x.p Q k e he
            generalize hasP x.p (Q.take k) = v at HN ⊢
            cases v with
            | true =>
              clear he
              go_upto_region 11 with fail
              try simp only [Act.put, List.setIfInBounds_toArray, List.set_cons_zero, List.set_cons_succ]
              refine wp_region_quiet_below (by kernel_rfl) (by kernel_rfl) ?_
              repeat (first
                | go_big_quiet_step (fail))
              refine wpQuiet_nil ?_
              intro _ hw'
              obtain ⟨⟨dq, osq⟩, hw''⟩ := hw'
              have hb := below_regrown wr dq osq
              subst hw''
              generalize grow (redrawn wr dq) osq = W6 at hb ⊢
              replace hG := hG.below hb
              replace hC := hC.trans (hb.mono hC.size)
              replace hW := Nat.le_trans hW hb.size
              clear hb
              go_wp2_with fail
              exact ⟨⟨k + 1, by omega, by go_num, by rw [HN.out]; rfl, hG, hC, hW⟩, by simp [intOf]; omega⟩
            | false =>
              obtain ⟨b', o', e', _, hbl, hr⟩ := (HS1.out.below hC).at Wt.vals_length k e he
              cases e'
              have bx := HBX.out.below hC
              have la2 := bx.regrown
              have lpx : ∀ w', (∃ p : Regrown, w' = grow (redrawn wr p.d) p.os) → w'.rangeAt z1 0 x.p.vals := fun w' h => by have := World.rangeAt_of_block (la2 w' h) 0 x.p.vals.length; rw [x.place] at this; exact this
              have lpe : ∀ w', (∃ p : Regrown, w' = grow (redrawn wr p.d) p.os) → w'.rangeAt b' (o' + k * 9) e.p.vals := fun w' ⟨p, e⟩ => range_p (e ▸ range_block hr ((below_regrown wr p.d p.os).block b' hbl))
              obtain ⟨t, ht⟩ : ∃ t, Pl.same e.p x.p = t := ⟨_, rfl⟩
              have kP : ∀ w, (binOp .eql 42 (.agg e.p.vals.toArray) (.agg x.p.vals.toArray)).run Try.prog w = .ok (.bool t) w := eqlPl e.p x.p t ht
              rw [ht] at HN
              clear he hr hbl bx la2 ht
              go_upto_region 11 with fail
              try simp only [Act.put, List.setIfInBounds_toArray, List.set_cons_zero, List.set_cons_succ]
              refine wp_region_quiet_below (by kernel_rfl) (by kernel_rfl) ?_
              repeat (first
                | (go_big_quiet_want; refine quiet_range (off := 0) rfl rfl lpx Try.underlying42 rfl sizePl ?_; simp only [Act.put, List.setIfInBounds_toArray, List.set_cons_zero, List.set_cons_succ]; go_big_quiet_on)
                | (go_big_quiet_want; refine quiet_range (off := o' + k * 9) rfl rfl lpe Try.underlying42 rfl sizePl ?_; simp only [Act.put, List.setIfInBounds_toArray, List.set_cons_zero, List.set_cons_succ]; go_big_quiet_on)
                | go_big_quiet_step (fail))
              refine wpQuiet_nil ?_
              intro _ hw'
              obtain ⟨⟨dq, osq⟩, hw''⟩ := hw'
              have hb := below_regrown wr dq osq
              subst hw''
              generalize grow (redrawn wr dq) osq = W6 at hb ⊢
              replace hG := hG.below hb
              replace hC := hC.trans (hb.mono hC.size)
              replace hW := Nat.le_trans hW hb.size
              clear hb
              clear lpx lpe kP
              go_wp2_with fail
              exact ⟨⟨k + 1, by omega, by go_num, by rw [HN.out]; rfl, hG, hC, hW⟩, by simp [intOf]; omega⟩
          · obtain rfl : k = p := by omega
            have HR : Hid (addQ1 x Q = layQ x (hasP x.p Q) Q) := by
              show _ = _
              unfold addQ1 layQ
              rfl
            rw [show Q.take k = Q from List.take_of_length_le (by rw [HL.out]; exact Nat.le_refl _)]
            generalize hasP x.p Q = v0 at HR ⊢
            go_wp2_with fail
            go_loopw [11, 12, 14] (fun ov lv kv wr => ∃ (i m : Nat) (sa : Option Addr) (sc : Nat) (s : List Wt) (v : Bool), i ≤ k ∧ kv = .int .i64 i ∧ lv = .bool v ∧ ov = .slice sa m sc ∧ Hid (s.length = m) ∧ Hid (m ≤ i + 1 ∧ (v = false → m ≤ i)) ∧ Hid (s ++ layQ x v (Q.drop i) = addQ1 x Q) ∧ Lg Wt.vals 9 47 U1.heap.size sa sc s wr ∧ Below U1.heap.size U1 wr ∧ U1.heap.size ≤ wr.heap.size) (fun _ _ kv _ => k - (intOf kv).toNat)
            case atStart => exact ⟨0, 0, _, 0, [], v0, by omega, rfl, rfl, rfl, rfl, ⟨by omega, fun _ => by omega⟩, by rw [List.drop_zero]; exact HR.out.symm, hG, hC, hW⟩
            case round =>
              clear hG hC hW HR
              obtain ⟨i, m, sa, sc, s, v, hi, rfl, rfl, rfl, HSM, HSL, HR, hG, hC, hW⟩ := hrel
              rename World => wr
              have k1 : (0 : Int) ≤ (i : Int) := by omega
              by_cases hik : i < k
              · have k0 : (i : Int) < (k : Int) := by omega
                obtain ⟨e, he⟩ : ∃ e, Q[i]? = some e := ⟨_, List.getElem?_eq_getElem (by rw [HL.out]; exact hik)⟩
                have HN : Hid (s ++ ((if (!v && befB x.p e.p) = true then [x] else []) ++ e :: layQ x (v || befB x.p e.p) (Q.drop (i + 1))) = addQ1 x Q) := by
                  have h1 := HR.out
                  rw [lay_at x v Q i e he] at h1
                  exact h1
                have HE2 : Hid (Q[i]? = some e) := he
                clear HR he
                cases v with
                | true =>
                  have HN2 : Hid (s ++ [e] ++ layQ x true (Q.drop (i + 1)) = addQ1 x Q) := by
                    have h1 := HN.out
                    show _ = _
                    simpa using h1
                  clear HN
                  go_upto_region 15 with fail
                  try simp only [Act.put, List.setIfInBounds_toArray, List.set_cons_zero, List.set_cons_succ]
                  refine wp_region_quiet_below (by kernel_rfl) (by kernel_rfl) ?_
                  repeat (first
                    | go_big_quiet_step (fail))
                  refine wpQuiet_nil ?_
                  intro _ hw'
                  obtain ⟨⟨dq, osq⟩, hw''⟩ := hw'
                  have hb := below_regrown wr dq osq
                  subst hw''
                  generalize grow (redrawn wr dq) osq = W6 at hb ⊢
                  replace hG := hG.below hb
                  replace hC := hC.trans (hb.mono hC.size)
                  replace hW := Nat.le_trans hW hb.size
                  clear hb
                  obtain ⟨b', o', e', _, hbl, hr⟩ := (HS1.out.below hC).at Wt.vals_length i e HE2.out
                  cases e'
                  go_wp2_with (first | refine load_range rfl 47 _ rfl e.vals hr rfl Try.underlying47 rfl sizeWt ?_ | (refine box_Wt rfl _ rfl e rfl ?_; intro W7 hl7 hb7; have hG7 := hG.below hb7; have hW7 := Nat.le_trans hW hb7.size) | (refine append_any Wt.vals_length rfl _ _ rfl Try.underlying22 hI hz0 hsz hby hzs hG7 hW7 HSM.out rfl (M := [e]) (m := 1) rfl (hl7.src Wt.vals_length Wt.vals_one Try.underlying22 1) rfl (by have := HQ.out; have := HSL.out; omega) (by have := HQ.out; have := HSL.out; simp only [maxLen]; omega) ?_; intro a8 c8 W8 hG8 hK8 hn8; have hC8 := (hC.trans (hb7.mono hC.size)).trans (hK8.below (fun i hi => (hG7.in _ hi).1) hW7); have hW8 := Nat.le_trans hW7 hK8.size))
                  exact ⟨⟨i + 1, m + 1, a8, c8, s ++ [e], true, by omega, by go_num, rfl, rfl, by show _ = _; rw [List.length_append, HSM.out]; rfl, ⟨by have := HSL.out; omega, fun h => by cases h⟩, HN2.out, hG8, hC8, hW8⟩, by simp [intOf]; omega⟩
                | false =>
                  obtain ⟨b', o', e', _, hbl, hr⟩ := (HS1.out.below hC).at Wt.vals_length i e HE2.out
                  cases e'
                  have bx := HBX.out.below hC
                  have la2 := bx.regrown
                  have lpx : ∀ w', (∃ p : Regrown, w' = grow (redrawn wr p.d) p.os) → w'.rangeAt z1 0 x.p.vals := fun w' h => by have := World.rangeAt_of_block (la2 w' h) 0 x.p.vals.length; rw [x.place] at this; exact this
                  have lpe : ∀ w', (∃ p : Regrown, w' = grow (redrawn wr p.d) p.os) → w'.rangeAt b' (o' + i * 9) e.p.vals := fun w' ⟨p, e⟩ => range_p (e ▸ range_block hr ((below_regrown wr p.d p.os).block b' hbl))
                  have pb := rbef_ok x.p e.p
                  obtain ⟨t, ht⟩ : ∃ t, befB x.p e.p = t := ⟨_, rfl⟩
                  rw [ht] at pb HN
                  have pB : ∀ d' os, Calls Try.prog 21 #[.agg x.p.vals.toArray, .agg e.p.vals.toArray] (grow (redrawn wr d') os) fun e w'' => e = .returned (.bool t) ∧ ∃ p : Regrown, w'' = grow (redrawn wr p.d) p.os := fun d' os => Calls.regrown_of (pb _)
                  clear hr hbl bx la2 ht pb
                  go_upto_region 15 with fail
                  try simp only [Act.put, List.setIfInBounds_toArray, List.set_cons_zero, List.set_cons_succ]
                  cases t with
                  | true =>
                    have HN2 : Hid (s ++ [x] ++ [e] ++ layQ x true (Q.drop (i + 1)) = addQ1 x Q) := by
                      have h1 := HN.out
                      show _ = _
                      simpa using h1
                    clear HN
                    refine wp_region_quiet_below (by kernel_rfl) (by kernel_rfl) ?_
                    repeat (first
                      | (go_big_quiet_want; refine quiet_range (off := 0) rfl rfl lpx Try.underlying42 rfl sizePl ?_; simp only [Act.put, List.setIfInBounds_toArray, List.set_cons_zero, List.set_cons_succ]; go_big_quiet_on)
                      | (go_big_quiet_want; refine quiet_range (off := o' + i * 9) rfl rfl lpe Try.underlying42 rfl sizePl ?_; simp only [Act.put, List.setIfInBounds_toArray, List.set_cons_zero, List.set_cons_succ]; go_big_quiet_on)
                      | go_big_quiet_step (first | with_reducible exact pB _ _))
                    refine wpQuiet_nil ?_
                    intro _ hw'
                    obtain ⟨⟨dq, osq⟩, hw''⟩ := hw'
                    have hb := below_regrown wr dq osq
                    subst hw''
                    generalize grow (redrawn wr dq) osq = W6 at hb ⊢
                    replace hG := hG.below hb
                    replace hC := hC.trans (hb.mono hC.size)
                    replace hW := Nat.le_trans hW hb.size
                    clear hb
                    clear lpx lpe pB
                    have bx := HBX.out.below hC
                    obtain ⟨b9, o9, e9, _, hbl, hr⟩ := HS1.out.at Wt.vals_length i e HE2.out
                    cases e9
                    have hlm : m ≤ i := HSL.out.2 rfl
                    have hsx : (s ++ [x]).length = m + 1 := by rw [List.length_append, HSM.out]; rfl
                    go_wp2_with (first | refine load_blk rfl 47 _ rfl bx rfl Try.underlying47 rfl sizeWt ?_ | (refine box_Wt rfl _ rfl x rfl ?_; intro W7 hl7 hb7; have hG7 := hG.below hb7; have hW7 := Nat.le_trans hW hb7.size) | (refine append_any Wt.vals_length rfl _ _ rfl Try.underlying22 hI hz0 hsz hby hzs hG7 hW7 HSM.out rfl (M := [x]) (m := 1) rfl (hl7.src Wt.vals_length Wt.vals_one Try.underlying22 1) rfl (by have := HQ.out; have := HSL.out; omega) (by have := HQ.out; have := HSL.out; simp only [maxLen]; omega) ?_; intro a8 c8 W8 hG8 hK8 hn8; have hC8 := (hC.trans (hb7.mono hC.size)).trans (hK8.below (fun i hi => (hG7.in _ hi).1) hW7); have hW8 := Nat.le_trans hW7 hK8.size) | (have hr9 := range_block hr (hC8.block _ hbl); refine load_range rfl 47 _ rfl e.vals hr9 rfl Try.underlying47 rfl sizeWt ?_) | (refine box_Wt rfl _ rfl e rfl ?_; intro W7z hl7z hb7z; have hG7z := hG8.below hb7z; have hW7z := Nat.le_trans hW8 hb7z.size) | (refine append_any Wt.vals_length rfl _ _ rfl Try.underlying22 hI hz0 hsz hby hzs hG7z hW7z hsx rfl (M := [e]) (m := 1) rfl (hl7z.src Wt.vals_length Wt.vals_one Try.underlying22 1) rfl (by have := HQ.out; have := HSL.out; omega) (by have := HQ.out; have := HSL.out; simp only [maxLen]; omega) ?_; intro a8z c8z W8z hG8z hK8z hn8z; have hC8z := (hC8.trans (hb7z.mono hC8.size)).trans (hK8z.below (fun i hi => (hG7z.in _ hi).1) hW7z); have hW8z := Nat.le_trans hW7z hK8z.size))
                    exact ⟨⟨i + 1, m + 1 + 1, a8z, c8z, s ++ [x] ++ [e], true, by omega, by go_num, rfl, rfl, by show _ = _; rw [List.length_append, hsx]; rfl, ⟨by omega, fun h => by cases h⟩, HN2.out, hG8z, hC8z, hW8z⟩, by simp [intOf]; omega⟩
                  | false =>
                    have HN2 : Hid (s ++ [e] ++ layQ x false (Q.drop (i + 1)) = addQ1 x Q) := by
                      have h1 := HN.out
                      show _ = _
                      simpa using h1
                    clear HN
                    refine wp_region_quiet_below (by kernel_rfl) (by kernel_rfl) ?_
                    repeat (first
                      | (go_big_quiet_want; refine quiet_range (off := 0) rfl rfl lpx Try.underlying42 rfl sizePl ?_; simp only [Act.put, List.setIfInBounds_toArray, List.set_cons_zero, List.set_cons_succ]; go_big_quiet_on)
                      | (go_big_quiet_want; refine quiet_range (off := o' + i * 9) rfl rfl lpe Try.underlying42 rfl sizePl ?_; simp only [Act.put, List.setIfInBounds_toArray, List.set_cons_zero, List.set_cons_succ]; go_big_quiet_on)
                      | go_big_quiet_step (first | with_reducible exact pB _ _))
                    refine wpQuiet_nil ?_
                    intro _ hw'
                    obtain ⟨⟨dq, osq⟩, hw''⟩ := hw'
                    have hb := below_regrown wr dq osq
                    subst hw''
                    generalize grow (redrawn wr dq) osq = W6 at hb ⊢
                    replace hG := hG.below hb
                    replace hC := hC.trans (hb.mono hC.size)
                    replace hW := Nat.le_trans hW hb.size
                    clear hb
                    clear lpx lpe pB
                    obtain ⟨b9, o9, e9, _, hbl, hr⟩ := (HS1.out.below hC).at Wt.vals_length i e HE2.out
                    cases e9
                    have hlm : m ≤ i := HSL.out.2 rfl
                    go_wp2_with (first | refine load_range rfl 47 _ rfl e.vals hr rfl Try.underlying47 rfl sizeWt ?_ | (refine box_Wt rfl _ rfl e rfl ?_; intro W7 hl7 hb7; have hG7 := hG.below hb7; have hW7 := Nat.le_trans hW hb7.size) | (refine append_any Wt.vals_length rfl _ _ rfl Try.underlying22 hI hz0 hsz hby hzs hG7 hW7 HSM.out rfl (M := [e]) (m := 1) rfl (hl7.src Wt.vals_length Wt.vals_one Try.underlying22 1) rfl (by have := HQ.out; have := HSL.out; omega) (by have := HQ.out; have := HSL.out; simp only [maxLen]; omega) ?_; intro a8 c8 W8 hG8 hK8 hn8; have hC8 := (hC.trans (hb7.mono hC.size)).trans (hK8.below (fun i hi => (hG7.in _ hi).1) hW7); have hW8 := Nat.le_trans hW7 hK8.size))
                    exact ⟨⟨i + 1, m + 1, a8, c8, s ++ [e], false, by omega, by go_num, rfl, rfl, by show _ = _; rw [List.length_append, HSM.out]; rfl, ⟨by omega, fun _ => by omega⟩, HN2.out, hG8, hC8, hW8⟩, by simp [intOf]; omega⟩
              · obtain rfl : i = k := by omega
                have h1 := HR.out
                rw [List.drop_eq_nil_of_le (by rw [HL.out]; exact Nat.le_refl _), lay_end] at h1
                have HB2 : Below w.heap.size w wr := HB1.out.trans (hC.mono HB1.out.size)
                cases v with
                | true =>
                  simp only [if_true, List.append_nil] at h1
                  have HA2 : Hid (addQ f r (j + 1) (E.drop (j + 1)) s = A) := by show _ = _; rw [h1]; exact HA1.out
                  clear h1 HR
                  go_wp2_with fail
                  exact ⟨⟨j + 1, m, sa, sc, s, by omega, by go_num, rfl, HSM, by have := HQ.out; have := HSL.out; show _ ≤ _; omega, HA2.out, hG.li.mono (Nat.le_trans hBw HB1.out.size), HB2⟩, by simp [intOf]; omega⟩
                | false =>
                  simp only [Bool.false_eq_true, if_false] at h1
                  have HA2 : Hid (addQ f r (j + 1) (E.drop (j + 1)) (s ++ [x]) = A) := by show _ = _; rw [h1]; exact HA1.out
                  have bx := HBX.out.below hC
                  clear h1 HR
                  go_wp2_with (first | refine load_blk rfl 47 _ rfl bx rfl Try.underlying47 rfl sizeWt ?_ | (refine box_Wt rfl _ rfl x rfl ?_; intro W7 hl7 hb7; have hG7 := hG.below hb7; have hW7 := Nat.le_trans hW hb7.size) | (refine append_any Wt.vals_length rfl _ _ rfl Try.underlying22 hI hz0 hsz hby hzs hG7 hW7 HSM.out rfl (M := [x]) (m := 1) rfl (hl7.src Wt.vals_length Wt.vals_one Try.underlying22 1) rfl (by have := HQ.out; have := HSL.out; omega) (by have := HQ.out; have := HSL.out; simp only [maxLen]; omega) ?_; intro a8 c8 W8 hG8 hK8 hn8; have hC8 := (hC.trans (hb7.mono hC.size)).trans (hK8.below (fun i hi => (hG7.in _ hi).1) hW7); have hW8 := Nat.le_trans hW7 hK8.size))
                  exact ⟨⟨j + 1, m + 1, a8, c8, s ++ [x], by omega, by go_num, rfl, by show _ = _; rw [List.length_append, HSM.out]; rfl, by have := HQ.out; have := HSL.out.2 rfl; show _ ≤ _; omega, HA2.out, hG8.li.mono (Nat.le_trans hBw HB1.out.size), HB1.out.trans (hC8.mono HB1.out.size)⟩, by simp [intOf]; omega⟩
    · obtain rfl : j = n := by omega
      have hX := HX.out
      rw [List.drop_eq_nil_of_le (by rw [hn.out]; exact Nat.le_refl _)] at hX
      have hst : Q = A := hX
      subst hst
      clear hX HX
      go_wp2_with fail
      go_ret
      exact ⟨⟨qa, qc, by rw [HL.out]; rfl, hS⟩, hB⟩

theorem radd_ok (L : List Wt) (E : List En) (f : Int) (r : Nat) (la ea : Option Addr) (lc ec : Nat) (lm : L.length + E.length ≤ 1000000000000) (w : World) (hS : Li Wt.vals 0 la L w) (hE : Li En.vals 0 ea E w) :
    Calls Try.prog 13 #[.slice la L.length lc, .int .i64 f, .int .u32 (r : Int), .slice ea E.length ec] w fun e w' => (∃ a c, e = .returned (.slice a (addQ f r 0 E L).length c) ∧ Li Wt.vals 0 a (addQ f r 0 E L) w') ∧ Below w.heap.size w w' := radd_okB 0 L E f r la ea lc ec lm w (Nat.zero_le _) hS hE

end Go.Proofs.Ytmnpbjaofemelaa
