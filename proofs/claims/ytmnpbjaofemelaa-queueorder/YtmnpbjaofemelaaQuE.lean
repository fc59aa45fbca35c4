/-
  The document's Ready: what is delivered, and what still waits.
  The places and counts fit; the queue is no longer than memory bears.
-/
import Derived.Test.YtmnpbjaofemelaaQuC
import Derived.Test.YtmnpbjaofemelaaQuD
namespace Go.Proofs.Ytmnpbjaofemelaa
set_option maxRecDepth 10000
open Go.RowKit Go.Sort
set_option linter.unusedVariables false
set_option linter.unusedSimpArgs false

theorem range_p {w : World} {b o : Nat} {x : Wt} (h : w.rangeAt b o x.vals) : w.rangeAt b o x.p.vals := fun q v hv => h q v (by
  obtain ⟨hq, _⟩ := List.getElem?_eq_some_iff.1 hv
  rw [show x.vals = x.p.vals ++ x.e.vals from rfl, List.getElem?_append_left hq]; exact hv)
theorem range_e {w : World} {b o : Nat} {x : Wt} (h : w.rangeAt b o x.vals) : w.rangeAt b (o + 3) x.e.vals := fun q v hv => by
  have := h (3 + q) v (by rw [show x.vals = x.p.vals ++ x.e.vals from rfl, List.getElem?_append_right (by show 3 ≤ 3 + q; omega)]; rw [show 3 + q - x.p.vals.length = q by show 3 + q - 3 = q; omega]; exact hv)
  rw [Nat.add_assoc]; exact this
theorem load_wrange {P : Program} {ops : Array Oper} {rest : List Oper} {op : Oper} {a : Act} {w : World} {Q : Exit → Act → World → Prop} (hw : Region.wanted op (yielded ops a.tmps) = true) (ty : TypeId) (x : Operand) (ho : op.op = .load ty x)
    {B o : Nat} (cs : List Value) (hr : w.rangeAt B o cs) (hx : a.eval x = .pointer (some ⟨B, o, none⟩)) {d : TypeDesc} (hu : P.underlying ty = some d) (hd : d.isRow = true) (hi : (P.info? ty).map (·.size) = some cs.length)
    (h : wpList P ops Q rest (a.put op.dst (.agg cs.toArray)) w) : wpList P ops Q (op :: rest) a w :=
  wpList_step fun _ hK => by
    rw [if_pos hw]
    exact wp_load_mid ty x ho B o hx cs d hr hu hd hi (hK _ _ h)

set_option maxHeartbeats 16000000 in
theorem rready_ok (c m : Nat → Nat) (hc : ∀ i, c i < 4294967296) (L : List Wt) (hf : ∀ x ∈ L, x.fit) (la : Option Addr) (lc : Nat) (lm : L.length ≤ 1000000000000) (w : World) (hS : Li Wt.vals 0 la L w) :
    Calls Try.prog 10 #[.slice la L.length lc, .agg (mbc c), .agg (mbc m)] w fun e w' => MadeTwo (rdyQ c m true L) (rstQ c m true L) w.heap.size e w' ∧ Below w.heap.size w w' := by
  obtain ⟨iI, zI, hI, hz0, hsz, hby, hzs⟩ := infoWt
  obtain ⟨RD, hRD⟩ : ∃ A, Hid (rdyQ c m true L = A) := ⟨_, rfl⟩
  obtain ⟨RS, hRS⟩ : ∃ A, Hid (rstQ c m true L = A) := ⟨_, rfl⟩
  rw [hRD.out, hRS.out]
  obtain ⟨n, hn⟩ : ∃ n, Hid (L.length = n) := ⟨_, rfl⟩
  rw [hn.out] at lm ⊢
  have HF : Hid (∀ x ∈ L, x.fit) := hf
  have HS : Hid (Li Wt.vals 0 la L w) := hS
  clear hf hS
  obtain ⟨bc, bm, hB⟩ := two_blk (T0 := 28) (T1 := 29) (C0 := mbc c) (C1 := mbc m) (w := w) rfl
  have hs2 : ((w.alloc (.cells (mbc c) 28)).alloc (.cells (mbc m) 29)).heap.size = w.heap.size + 2 := by simp
  go_enter Try.func10, Try.ntmps10
  go_upto_region 1 with fail
  try simp only [Act.put]
  generalize (w.alloc (Obj.cells (mbc c) 28)).alloc (Obj.cells (mbc m) 29) = W at bc bm hB hs2 ⊢
  obtain ⟨b0, b1, hb⟩ := two_blk (T0 := 47) (T1 := 47) (C0 := #[]) (C1 := #[]) (w := W) rfl
  go_upto_region 2 with (refine box_Wt0 rfl rfl ?_)
  try simp only [Act.put]
  generalize (W.alloc (Obj.cells #[] 47)).alloc (Obj.cells #[] 47) = W1 at b0 b1 hb ⊢
  have hW : w.heap.size + 2 ≤ W1.heap.size := by have := hb.size; omega
  rw [hs2] at b0 b1
  have hG : Lg Wt.vals 9 47 (w.heap.size + 2) (some ⟨w.heap.size + 2, 0, none⟩) 0 [] W1 := Lg.of (Ow.empty b0) (by omega)
  have hT : Lg Wt.vals 9 47 (w.heap.size + 2) (some ⟨w.heap.size + 2 + 1, 0, none⟩) 0 [] W1 := Lg.of (Ow.empty b1) (by omega)
  replace bc := bc.below hb
  replace bm := bm.below hb
  replace hB := hB.trans (hb.mono hB.size)
  clear hb b0 b1 hs2
  go_wp2_with fail
  go_loopw [8, 9, 10] (fun dv tv iv wr => ∃ (j p m' : Nat) (sa : Option Addr) (sc : Nat) (ta : Option Addr) (tc : Nat) (s t : List Wt), j ≤ n ∧ iv = .int .i64 j ∧ dv = .slice sa p sc ∧ tv = .slice ta m' tc ∧
      Hid (s.length = p ∧ t.length = m') ∧ Hid (p + m' ≤ j) ∧ Hid (s ++ rdyQ c m (opnTo c m L j) (L.drop j) = RD) ∧ Hid (t ++ rstQ c m (opnTo c m L j) (L.drop j) = RS) ∧ Lg Wt.vals 9 47 (w.heap.size + 2) sa sc s wr ∧ Lg Wt.vals 9 47 (w.heap.size + 2) ta tc t wr ∧ Hid (∀ i ∈ blkOf sa, i ∉ blkOf ta) ∧ Blk w.heap.size (mbc c) 28 wr ∧ Blk (w.heap.size + 1) (mbc m) 29 wr ∧ Below w.heap.size w wr ∧ w.heap.size + 2 ≤ wr.heap.size) (fun _ _ iv _ => n - (intOf iv).toNat)
  case atStart => exact ⟨0, 0, 0, _, 0, _, 0, [], [], by omega, rfl, rfl, rfl, ⟨rfl, rfl⟩, by show _ ≤ _; omega, hRD, hRS, hG, hT, by simp [Hid, blkOf], bc, bm, hB, hW⟩
  case round =>
    clear bc bm hB hRD hRS hG hT hW
    obtain ⟨j, p, m', sa, sc, ta, tc, s, t, hj, rfl, rfl, rfl, HL, HQ, HR, HS3, hG, hT, HD, bc, bm, hB, hW⟩ := hrel
    rename World => wr
    by_cases hjn : j < n
    · have j0 : (j : Int) < (n : Int) := by omega
      have j1 : (0 : Int) ≤ (j : Int) := by omega
      obtain ⟨x, hx⟩ : ∃ k, L[j]? = some k := ⟨_, List.getElem?_eq_getElem (by rw [hn.out]; exact hjn)⟩
      have hxf := HF.out x (List.mem_of_getElem? hx)
      replace HR : Hid (s ++ ((if takeQ c m (opnTo c m L j) x = true then [x] else []) ++ rdyQ c m (opnTo c m L (j + 1)) (L.drop (j + 1))) = RD) := by
        have h1 := HR.out
        rw [rdy_at c m _ L j x hx, ← opn_next c m L j x hx] at h1
        exact h1
      replace HS3 : Hid (t ++ ((if takeQ c m (opnTo c m L j) x = true then [] else [x]) ++ rstQ c m (opnTo c m L (j + 1)) (L.drop (j + 1))) = RS) := by
        have h1 := HS3.out
        rw [rst_at c m _ L j x hx, ← opn_next c m L j x hx] at h1
        exact h1
      have HX : Hid (L[j]? = some x) := hx
      obtain ⟨b, o, rfl, _, hbl, hr⟩ := (HS.out.below hB).at Wt.vals_length j x hx
      have lxw : ∀ w', (∃ p : Regrown, w' = grow (redrawn wr p.d) p.os) → w'.rangeAt b (o + j * 9) x.vals := fun w' ⟨p, e⟩ => e ▸ range_block hr ((below_regrown wr p.d p.os).block b hbl)
      have lc9 := bc.regrown
      have lm9 := bm.regrown
      have pI := ris_ok c m hc x hxf
      obtain ⟨v, hv⟩ : ∃ q, isQ c m x = q := ⟨_, rfl⟩
      rw [hv] at pI
      have HV : Hid (takeQ c m (opnTo c m L 0) x = v) := by
        show _ = _
        unfold takeQ
        rw [hv, show opnTo c m L 0 = true from rfl, Bool.or_true, Bool.and_true]
      have p1 : ∀ d' os, Calls Try.prog 26 #[.agg x.vals.toArray, .agg (mbc c), .agg (mbc m)] (grow (redrawn wr d') os) fun e w'' => e = .returned (.bool v) ∧ ∃ p : Regrown, w'' = grow (redrawn wr p.d) p.os := fun d' os => Calls.regrown_of (pI _)
      obtain ⟨od, ho⟩ : ∃ q, ordB x.e = q := ⟨_, rfl⟩
      clear hv pI hr hbl hx hxf
      go_upto_region 5 with fail
      try simp only [Act.put, List.setIfInBounds_toArray, List.set_cons_zero, List.set_cons_succ]
      refine wp_region_quiet_below (by kernel_rfl) (by kernel_rfl) ?_
      repeat (first
        | (go_big_quiet_want; refine quiet_range (off := o + j * 9) rfl rfl lxw Try.underlying47 rfl sizeWt ?_; simp only [Act.put, List.setIfInBounds_toArray, List.set_cons_zero, List.set_cons_succ]; go_big_quiet_on)
        | (go_big_quiet_want; refine quiet_load rfl rfl lc9 Try.underlying28 rfl sizeCt ?_; simp only [Act.put, List.setIfInBounds_toArray, List.set_cons_zero, List.set_cons_succ]; go_big_quiet_on)
        | (go_big_quiet_want; refine quiet_load rfl rfl lm9 Try.underlying29 rfl sizeMb ?_; simp only [Act.put, List.setIfInBounds_toArray, List.set_cons_zero, List.set_cons_succ]; go_big_quiet_on)
        | go_big_quiet_step (first | with_reducible exact p1 _ _))
      refine wpQuiet_nil ?_
      intro _ hw'
      obtain ⟨⟨dq, osq⟩, hw''⟩ := hw'
      have hb := below_regrown wr dq osq
      subst hw''
      generalize grow (redrawn wr dq) osq = W4 at hb ⊢
      replace bc := bc.below hb
      replace bm := bm.below hb
      replace hG := hG.below hb
      replace hT := hT.below hb
      replace hB := hB.trans (hb.mono hB.size)
      replace hW := Nat.le_trans hW hb.size
      clear hb
      clear lxw lc9 lm9 p1
      go_wp2_with fail
      go_loopw [11, 12] (fun av kv wr => ∃ (k : Nat) (v : Bool), k ≤ j ∧ kv = .int .i64 k ∧ av = .bool v ∧ Hid (takeQ c m (opnTo c m L k) x = v) ∧ Lg Wt.vals 9 47 (w.heap.size + 2) sa sc s wr ∧ Lg Wt.vals 9 47 (w.heap.size + 2) ta tc t wr ∧ Blk w.heap.size (mbc c) 28 wr ∧ Blk (w.heap.size + 1) (mbc m) 29 wr ∧ Below w.heap.size w wr ∧ w.heap.size + 2 ≤ wr.heap.size) (fun _ kv _ => j - (intOf kv).toNat)
      case atStart => exact ⟨0, v, by omega, rfl, rfl, HV.out, hG, hT, bc, bm, hB, hW⟩
      case round =>
        clear hG hT bc bm hB hW HV
        obtain ⟨k, v, hk, rfl, rfl, HV, hG, hT, bc, bm, hB, hW⟩ := hrel
        rename World => wr
        have k1 : (0 : Int) ≤ (k : Int) := by omega
        by_cases hkj : k < j
        · have k0 : (k : Int) < (j : Int) := by omega
          have kn : (k : Int) < (n : Int) := by omega
          obtain ⟨b', o', e', _, hbl, hr⟩ := (HS.out.below hB).at Wt.vals_length j x HX.out
          cases e'
          have hre := range_e hr
          have pO := rord_ok x.e
          rw [ho] at pO
          cases od with
          | false =>
            have HT : Hid (takeQ c m (opnTo c m L j) x = v) := by
              have h1 := HV.out
              show _ = _
              rw [← h1]
              unfold takeQ
              rw [ho]
              rfl
            go_wp2_with (refine load_wrange rfl 45 _ rfl x.e.vals hre rfl Try.underlying45 rfl sizeEn ?_)
            refine (pO _).mono ?_
            rintro e5 W5 ⟨rfl, hb⟩
            replace bc := bc.below hb
            replace bm := bm.below hb
            replace hG := hG.below hb
            replace hT := hT.below hb
            replace hB := hB.trans (hb.mono hB.size)
            replace hW := Nat.le_trans hW hb.size
            clear hb
            clear pO hre hr hbl HV ho k0 kn
            cases v with
            | true =>
              have hr9 := (HS.out.below hB).at Wt.vals_length j x HX.out
              obtain ⟨b9, o9, e9, _, hbl9, hr9⟩ := hr9
              cases e9
              go_wp2_with (first | refine load_range rfl 47 _ rfl x.vals hr9 rfl Try.underlying47 rfl sizeWt ?_ | (refine box_Wt rfl _ rfl x rfl ?_; intro W7 hl7 hb7; have hG7 := hG.below hb7; have hW7 := Nat.le_trans hW hb7.size) | (refine append_any Wt.vals_length rfl _ _ rfl Try.underlying22 hI hz0 hsz hby hzs hG7 hW7 HL.out.1 rfl (M := [x]) (m := 1) rfl (hl7.src Wt.vals_length Wt.vals_one Try.underlying22 1) rfl (by have := HQ.out; omega) (by have := HQ.out; simp only [maxLen]; omega) ?_; intro a8 c8 W8 hG8 hK8 hn8))
              have hO := hT
              have hO8 := (hO.below hb7).off hK8 (fun i hi => fun h => HD.out _ hi h)
              have c8' := (bc.below hb7).kp hK8 (fun h => by have := (hG7.in _ h).1; omega)
              have m8' := (bm.below hb7).kp hK8 (fun h => by have := (hG7.in _ h).1; omega)
              have hB7 := hB.trans (hb7.mono hB.size)
              have hB8 : Below w.heap.size w W8 := hB7.trans (hK8.below (fun i hi => by have := (hG7.in _ hi).1; omega) hB7.size)
              have hW8 := Nat.le_trans hW7 hK8.size
              have HD2 : Hid (∀ i ∈ blkOf a8, i ∉ blkOf ta) := fun i hi hi2 => by
                rcases hn8 i hi with h | h
                · exact HD.out i h hi2
                · have := (hT.in i hi2).2; have := hb7.size; omega
              have HR2 := HR.out
              have HS2 := HS3.out
              rw [HT.out] at HR2 HS2
              simp only [if_true, List.nil_append, ← List.append_assoc] at HR2 HS2
              exact ⟨⟨j + 1, p + 1, m', a8, c8, ta, tc, s ++ [x], t, by omega, by go_num, rfl, rfl, ⟨by rw [List.length_append, HL.out.1]; rfl, HL.out.2⟩, by have := HQ.out; show _ ≤ _; omega, HR2, HS2, hG8, hO8, HD2, c8', m8', hB8, hW8⟩, by simp [intOf]; omega⟩
            | false =>
              have hr9 := (HS.out.below hB).at Wt.vals_length j x HX.out
              obtain ⟨b9, o9, e9, _, hbl9, hr9⟩ := hr9
              cases e9
              go_wp2_with (first | refine load_range rfl 47 _ rfl x.vals hr9 rfl Try.underlying47 rfl sizeWt ?_ | (refine box_Wt rfl _ rfl x rfl ?_; intro W7 hl7 hb7; have hG7 := hT.below hb7; have hW7 := Nat.le_trans hW hb7.size) | (refine append_any Wt.vals_length rfl _ _ rfl Try.underlying22 hI hz0 hsz hby hzs hG7 hW7 HL.out.2 rfl (M := [x]) (m := 1) rfl (hl7.src Wt.vals_length Wt.vals_one Try.underlying22 1) rfl (by have := HQ.out; omega) (by have := HQ.out; simp only [maxLen]; omega) ?_; intro a8 c8 W8 hG8 hK8 hn8))
              have hO := hG
              have hO8 := (hO.below hb7).off hK8 (fun i hi => fun h => HD.out _ h hi)
              have c8' := (bc.below hb7).kp hK8 (fun h => by have := (hG7.in _ h).1; omega)
              have m8' := (bm.below hb7).kp hK8 (fun h => by have := (hG7.in _ h).1; omega)
              have hB7 := hB.trans (hb7.mono hB.size)
              have hB8 : Below w.heap.size w W8 := hB7.trans (hK8.below (fun i hi => by have := (hG7.in _ hi).1; omega) hB7.size)
              have hW8 := Nat.le_trans hW7 hK8.size
              have HD2 : Hid (∀ i ∈ blkOf sa, i ∉ blkOf a8) := fun i hi hi2 => by
                rcases hn8 i hi2 with h | h
                · exact HD.out i hi h
                · have := (hG.in i hi).2; have := hb7.size; omega
              have HR2 := HR.out
              have HS2 := HS3.out
              rw [HT.out] at HR2 HS2
              simp only [Bool.false_eq_true, if_false, List.nil_append, ← List.append_assoc] at HR2 HS2
              exact ⟨⟨j + 1, p, m' + 1, sa, sc, a8, c8, s, t ++ [x], by omega, by go_num, rfl, rfl, ⟨HL.out.1, by rw [List.length_append, HL.out.2]; rfl⟩, by have := HQ.out; show _ ≤ _; omega, HR2, HS2, hO8, hG8, HD2, c8', m8', hB8, hW8⟩, by simp [intOf]; omega⟩
          | true =>
            obtain ⟨y, hy⟩ : ∃ q, L[k]? = some q := ⟨_, List.getElem?_eq_getElem (by rw [hn.out]; omega)⟩
            have hyf := HF.out y (List.mem_of_getElem? hy)
            have HN : Hid (takeQ c m (opnTo c m L (k + 1)) x = (v && (!ordB y.e || isQ c m y))) := by
              show _ = _
              rw [← HV.out, opn_next c m L k y hy]
              unfold takeQ openQ
              rw [ho]
              cases isQ c m x <;> cases opnTo c m L k <;> cases ordB y.e <;> cases isQ c m y <;> rfl
            go_wp2_with (refine load_wrange rfl 45 _ rfl x.e.vals hre rfl Try.underlying45 rfl sizeEn ?_)
            refine (pO _).mono ?_
            rintro e5 W5 ⟨rfl, hb⟩
            replace bc := bc.below hb
            replace bm := bm.below hb
            replace hG := hG.below hb
            replace hT := hT.below hb
            replace hB := hB.trans (hb.mono hB.size)
            replace hW := Nat.le_trans hW hb.size
            clear hb
            clear pO hre hr hbl HV ho
            obtain ⟨b', o', e', _, hbl', hry⟩ := (HS.out.below hB).at Wt.vals_length k y hy
            cases e'
            have lyw : ∀ w', (∃ p : Regrown, w' = grow (redrawn W5 p.d) p.os) → w'.rangeAt b (o + k * 9) y.vals := fun w' ⟨p, e⟩ => e ▸ range_block hry ((below_regrown W5 p.d p.os).block b hbl')
            have lye : ∀ w', (∃ p : Regrown, w' = grow (redrawn W5 p.d) p.os) → w'.rangeAt b (o + k * 9 + 3) y.e.vals := fun w' h => range_e (lyw w' h)
            have lc9 := bc.regrown
            have lm9 := bm.regrown
            have pO := rord_ok y.e
            have pI := ris_ok c m hc y hyf
            obtain ⟨ov, hov⟩ : ∃ q, ordB y.e = q := ⟨_, rfl⟩
            obtain ⟨iv, hiv⟩ : ∃ q, isQ c m y = q := ⟨_, rfl⟩
            rw [hov] at pO HN
            rw [hiv] at pI HN
            have p0 : ∀ d' os, Calls Try.prog 20 #[.agg y.e.vals.toArray] (grow (redrawn W5 d') os) fun e w'' => e = .returned (.bool ov) ∧ ∃ p : Regrown, w'' = grow (redrawn W5 p.d) p.os := fun d' os => Calls.regrown_of (pO _)
            have p1 : ∀ d' os, Calls Try.prog 26 #[.agg y.vals.toArray, .agg (mbc c), .agg (mbc m)] (grow (redrawn W5 d') os) fun e w'' => e = .returned (.bool iv) ∧ ∃ p : Regrown, w'' = grow (redrawn W5 p.d) p.os := fun d' os => Calls.regrown_of (pI _)
            clear pO pI hov hiv hy hyf hry hbl'
            go_wp2_with fail
            cases ov with
            | false =>
              clear p1 lyw lc9 lm9
              refine wp_region_quiet_below (by kernel_rfl) (by kernel_rfl) ?_
              repeat (first
                | (go_big_quiet_want; refine quiet_range (off := o + k * 9 + 3) rfl rfl lye Try.underlying45 rfl sizeEn ?_; simp only [Act.put, List.setIfInBounds_toArray, List.set_cons_zero, List.set_cons_succ]; go_big_quiet_on)
                | go_big_quiet_step (first | with_reducible exact p0 _ _))
              refine wpQuiet_nil ?_
              intro _ hw'
              obtain ⟨⟨dq, osq⟩, hw''⟩ := hw'
              have hb := below_regrown W5 dq osq
              subst hw''
              generalize grow (redrawn W5 dq) osq = W6 at hb ⊢
              replace bc := bc.below hb
              replace bm := bm.below hb
              replace hG := hG.below hb
              replace hT := hT.below hb
              replace hB := hB.trans (hb.mono hB.size)
              replace hW := Nat.le_trans hW hb.size
              clear hb
              go_wp2_with fail
              exact ⟨⟨k + 1, v, by omega, by go_num, rfl, by rw [HN.out]; exact Bool.and_true v, hG, hT, bc, bm, hB, hW⟩, by simp [intOf]; omega⟩
            | true =>
              cases iv with
              | true =>
                refine wp_region_quiet_below (by kernel_rfl) (by kernel_rfl) ?_
                repeat (first
                  | (go_big_quiet_want; refine quiet_range (off := o + k * 9 + 3) rfl rfl lye Try.underlying45 rfl sizeEn ?_; simp only [Act.put, List.setIfInBounds_toArray, List.set_cons_zero, List.set_cons_succ]; go_big_quiet_on)
                  | (go_big_quiet_want; refine quiet_range (off := o + k * 9) rfl rfl lyw Try.underlying47 rfl sizeWt ?_; simp only [Act.put, List.setIfInBounds_toArray, List.set_cons_zero, List.set_cons_succ]; go_big_quiet_on)
                  | (go_big_quiet_want; refine quiet_load rfl rfl lc9 Try.underlying28 rfl sizeCt ?_; simp only [Act.put, List.setIfInBounds_toArray, List.set_cons_zero, List.set_cons_succ]; go_big_quiet_on)
                  | (go_big_quiet_want; refine quiet_load rfl rfl lm9 Try.underlying29 rfl sizeMb ?_; simp only [Act.put, List.setIfInBounds_toArray, List.set_cons_zero, List.set_cons_succ]; go_big_quiet_on)
                  | go_big_quiet_step (first | with_reducible exact p0 _ _ | with_reducible exact p1 _ _))
                refine wpQuiet_nil ?_
                intro _ hw'
                obtain ⟨⟨dq, osq⟩, hw''⟩ := hw'
                have hb := below_regrown W5 dq osq
                subst hw''
                generalize grow (redrawn W5 dq) osq = W6 at hb ⊢
                replace bc := bc.below hb
                replace bm := bm.below hb
                replace hG := hG.below hb
                replace hT := hT.below hb
                replace hB := hB.trans (hb.mono hB.size)
                replace hW := Nat.le_trans hW hb.size
                clear hb
                go_wp2_with fail
                exact ⟨⟨k + 1, v, by omega, by go_num, rfl, by rw [HN.out]; exact Bool.and_true v, hG, hT, bc, bm, hB, hW⟩, by simp [intOf]; omega⟩
              | false =>
                refine wp_region_quiet_below (by kernel_rfl) (by kernel_rfl) ?_
                repeat (first
                  | (go_big_quiet_want; refine quiet_range (off := o + k * 9 + 3) rfl rfl lye Try.underlying45 rfl sizeEn ?_; simp only [Act.put, List.setIfInBounds_toArray, List.set_cons_zero, List.set_cons_succ]; go_big_quiet_on)
                  | (go_big_quiet_want; refine quiet_range (off := o + k * 9) rfl rfl lyw Try.underlying47 rfl sizeWt ?_; simp only [Act.put, List.setIfInBounds_toArray, List.set_cons_zero, List.set_cons_succ]; go_big_quiet_on)
                  | (go_big_quiet_want; refine quiet_load rfl rfl lc9 Try.underlying28 rfl sizeCt ?_; simp only [Act.put, List.setIfInBounds_toArray, List.set_cons_zero, List.set_cons_succ]; go_big_quiet_on)
                  | (go_big_quiet_want; refine quiet_load rfl rfl lm9 Try.underlying29 rfl sizeMb ?_; simp only [Act.put, List.setIfInBounds_toArray, List.set_cons_zero, List.set_cons_succ]; go_big_quiet_on)
                  | go_big_quiet_step (first | with_reducible exact p0 _ _ | with_reducible exact p1 _ _))
                refine wpQuiet_nil ?_
                intro _ hw'
                obtain ⟨⟨dq, osq⟩, hw''⟩ := hw'
                have hb := below_regrown W5 dq osq
                subst hw''
                generalize grow (redrawn W5 dq) osq = W6 at hb ⊢
                replace bc := bc.below hb
                replace bm := bm.below hb
                replace hG := hG.below hb
                replace hT := hT.below hb
                replace hB := hB.trans (hb.mono hB.size)
                replace hW := Nat.le_trans hW hb.size
                clear hb
                go_wp2_with fail
                exact ⟨⟨k + 1, false, by omega, by go_num, rfl, by rw [HN.out]; exact Bool.and_false v, hG, hT, bc, bm, hB, hW⟩, by simp [intOf]; omega⟩
        · obtain rfl : k = j := by omega
          have HT : Hid (takeQ c m (opnTo c m L k) x = v) := HV
          clear HV ho
          cases v with
          | true =>
            have hr9 := (HS.out.below hB).at Wt.vals_length k x HX.out
            obtain ⟨b9, o9, e9, _, hbl9, hr9⟩ := hr9
            cases e9
            go_wp2_with (first | refine load_range rfl 47 _ rfl x.vals hr9 rfl Try.underlying47 rfl sizeWt ?_ | (refine box_Wt rfl _ rfl x rfl ?_; intro W7 hl7 hb7; have hG7 := hG.below hb7; have hW7 := Nat.le_trans hW hb7.size) | (refine append_any Wt.vals_length rfl _ _ rfl Try.underlying22 hI hz0 hsz hby hzs hG7 hW7 HL.out.1 rfl (M := [x]) (m := 1) rfl (hl7.src Wt.vals_length Wt.vals_one Try.underlying22 1) rfl (by have := HQ.out; omega) (by have := HQ.out; simp only [maxLen]; omega) ?_; intro a8 c8 W8 hG8 hK8 hn8))
            have hO := hT
            have hO8 := (hO.below hb7).off hK8 (fun i hi => fun h => HD.out _ hi h)
            have c8' := (bc.below hb7).kp hK8 (fun h => by have := (hG7.in _ h).1; omega)
            have m8' := (bm.below hb7).kp hK8 (fun h => by have := (hG7.in _ h).1; omega)
            have hB7 := hB.trans (hb7.mono hB.size)
            have hB8 : Below w.heap.size w W8 := hB7.trans (hK8.below (fun i hi => by have := (hG7.in _ hi).1; omega) hB7.size)
            have hW8 := Nat.le_trans hW7 hK8.size
            have HD2 : Hid (∀ i ∈ blkOf a8, i ∉ blkOf ta) := fun i hi hi2 => by
              rcases hn8 i hi with h | h
              · exact HD.out i h hi2
              · have := (hT.in i hi2).2; have := hb7.size; omega
            have HR2 := HR.out
            have HS2 := HS3.out
            rw [HT.out] at HR2 HS2
            simp only [if_true, List.nil_append, ← List.append_assoc] at HR2 HS2
            exact ⟨⟨k + 1, p + 1, m', a8, c8, ta, tc, s ++ [x], t, by omega, by go_num, rfl, rfl, ⟨by rw [List.length_append, HL.out.1]; rfl, HL.out.2⟩, by have := HQ.out; show _ ≤ _; omega, HR2, HS2, hG8, hO8, HD2, c8', m8', hB8, hW8⟩, by simp [intOf]; omega⟩
          | false =>
            have hr9 := (HS.out.below hB).at Wt.vals_length k x HX.out
            obtain ⟨b9, o9, e9, _, hbl9, hr9⟩ := hr9
            cases e9
            go_wp2_with (first | refine load_range rfl 47 _ rfl x.vals hr9 rfl Try.underlying47 rfl sizeWt ?_ | (refine box_Wt rfl _ rfl x rfl ?_; intro W7 hl7 hb7; have hG7 := hT.below hb7; have hW7 := Nat.le_trans hW hb7.size) | (refine append_any Wt.vals_length rfl _ _ rfl Try.underlying22 hI hz0 hsz hby hzs hG7 hW7 HL.out.2 rfl (M := [x]) (m := 1) rfl (hl7.src Wt.vals_length Wt.vals_one Try.underlying22 1) rfl (by have := HQ.out; omega) (by have := HQ.out; simp only [maxLen]; omega) ?_; intro a8 c8 W8 hG8 hK8 hn8))
            have hO := hG
            have hO8 := (hO.below hb7).off hK8 (fun i hi => fun h => HD.out _ h hi)
            have c8' := (bc.below hb7).kp hK8 (fun h => by have := (hG7.in _ h).1; omega)
            have m8' := (bm.below hb7).kp hK8 (fun h => by have := (hG7.in _ h).1; omega)
            have hB7 := hB.trans (hb7.mono hB.size)
            have hB8 : Below w.heap.size w W8 := hB7.trans (hK8.below (fun i hi => by have := (hG7.in _ hi).1; omega) hB7.size)
            have hW8 := Nat.le_trans hW7 hK8.size
            have HD2 : Hid (∀ i ∈ blkOf sa, i ∉ blkOf a8) := fun i hi hi2 => by
              rcases hn8 i hi2 with h | h
              · exact HD.out i hi h
              · have := (hG.in i hi).2; have := hb7.size; omega
            have HR2 := HR.out
            have HS2 := HS3.out
            rw [HT.out] at HR2 HS2
            simp only [Bool.false_eq_true, if_false, List.nil_append, ← List.append_assoc] at HR2 HS2
            exact ⟨⟨k + 1, p, m' + 1, sa, sc, a8, c8, s, t ++ [x], by omega, by go_num, rfl, rfl, ⟨HL.out.1, by rw [List.length_append, HL.out.2]; rfl⟩, by have := HQ.out; show _ ≤ _; omega, HR2, HS2, hO8, hG8, HD2, c8', m8', hB8, hW8⟩, by simp [intOf]; omega⟩
    · obtain rfl : j = n := by omega
      have h1 := HR.out
      have h2 := HS3.out
      rw [List.drop_eq_nil_of_le (by rw [hn.out]; exact Nat.le_refl _)] at h1 h2
      rw [show rdyQ c m (opnTo c m L j) [] = [] from rfl, List.append_nil] at h1
      rw [show rstQ c m (opnTo c m L j) [] = [] from rfl, List.append_nil] at h2
      have e1 : RD.length = p := by rw [← h1]; exact HL.out.1
      have e2 : RS.length = m' := by rw [← h2]; exact HL.out.2
      rw [h1] at hG
      rw [h2] at hT
      clear h1 h2 HR HS3 bc bm
      go_wp2_with fail
      go_ret2
      exact ⟨⟨sa, sc, ta, tc, by rw [e1, e2]; rfl, hG.mono (by omega), hT.mono (by omega), HD.out⟩, hB⟩

end Go.Proofs.Ytmnpbjaofemelaa
