/-
  The program's Ready: what is delivered, and what still waits.
  The places fit; the queue is no longer than memory bears.
-/
import Derived.Test.YtmnpbjaofemelaaQuB
import Derived.Test.YtmnpbjaofemelaaRdB
namespace Go.Proofs.Ytmnpbjaofemelaa
set_option maxRecDepth 10000
open Go.RowKit Go.Sort
set_option linter.unusedVariables false
set_option linter.unusedSimpArgs false

theorem Lg.off {α : Type} {f : α → List Value} {k : Nat} {T : TypeId} {B : Nat} {S : List Nat} {a : Option Addr} {cap : Nat} {L : List α} {w w' : World} (h : Lg f k T B a cap L w) (hb : Kp S w w') (hS : ∀ i ∈ S, i ∉ blkOf a) : Lg f k T B a cap L w' := by
  rcases h with ⟨rfl, rfl, rfl⟩ | ⟨g, rfl, hB, h⟩
  · exact Lg.none _ _ _
  · exact Lg.of (h.kp hb (fun hg => hS g hg (by simp [blkOf]))) hB
/- Two lists that were made since there were B blocks, apart from one another. -/
def MadeTwo (R S : List Wt) (B : Nat) (e : Ending) (w' : World) : Prop := ∃ a c a' c', e = .returned (.tuple #[.slice a R.length c, .slice a' S.length c']) ∧ Lg Wt.vals 9 47 B a c R w' ∧ Lg Wt.vals 9 47 B a' c' S w' ∧ ∀ i ∈ blkOf a, i ∉ blkOf a'

set_option maxHeartbeats 8000000 in
theorem ready_ok (c m : Nat → Nat) (L : List Wt) (hf : ∀ x ∈ L, x.fit) (la : Option Addr) (lc : Nat) (lm : L.length ≤ 1000000000000) (w : World) (hS : Li Wt.vals 0 la L w) :
    Calls Try.prog 9 #[.slice la L.length lc, .agg (mbc c), .agg (mbc m)] w fun e w' => MadeTwo (rdyQ c m true L) (rstQ c m true L) w.heap.size e w' ∧ Below w.heap.size w w' := by
  obtain ⟨iI, zI, hI, hz0, hsz, hby, hzs⟩ := infoWt
  obtain ⟨RD, hRD⟩ : ∃ A, Hid (rdyQ c m true L = A) := ⟨_, rfl⟩
  obtain ⟨RS, hRS⟩ : ∃ A, Hid (rstQ c m true L = A) := ⟨_, rfl⟩
  rw [hRD.out, hRS.out]
  obtain ⟨n, hn⟩ : ∃ n, Hid (L.length = n) := ⟨_, rfl⟩
  rw [hn.out] at lm ⊢
  have HF : Hid (∀ x ∈ L, x.fit) := hf
  have HS : Hid (Li Wt.vals 0 la L w) := hS
  clear hf hS
  have bc := (blk_new w (mbc c) 28).alloc (.cells (mbc m) 29)
  have bm := blk_new (w.alloc (.cells (mbc c) 28)) (mbc m) 29
  have hs : (w.alloc (.cells (mbc c) 28)).heap.size = w.heap.size + 1 := by simp
  have hB : Below w.heap.size w ((w.alloc (.cells (mbc c) 28)).alloc (.cells (mbc m) 29)) := (below_box w _).alloc (by simp) _
  have hs2 : ((w.alloc (.cells (mbc c) 28)).alloc (.cells (mbc m) 29)).heap.size = w.heap.size + 2 := by simp
  rw [hs] at bm
  obtain ⟨W, hW⟩ : ∃ W, (w.alloc (.cells (mbc c) 28)).alloc (.cells (mbc m) 29) = W := ⟨_, rfl⟩
  rw [hW] at bc bm hB hs2
  clear hs
  go_enter Try.func9, Try.ntmps9
  go_upto_region 1 with fail
  try simp only [Act.put]
  try rw [hW]
  clear hW
  go_wp2_with fail
  go_loopw [8, 9, 10, 16] (fun dv tv hv iv wr => ∃ (j p m' : Nat) (sa : Option Addr) (sc : Nat) (ta : Option Addr) (tc : Nat) (s t : List Wt) (h : Bool), j ≤ n ∧ iv = .int .i64 j ∧ dv = .slice sa p sc ∧ tv = .slice ta m' tc ∧ hv = .bool h ∧
      Hid (s.length = p ∧ t.length = m') ∧ Hid (p + m' ≤ j) ∧ Hid (s ++ rdyQ c m (!h) (L.drop j) = RD) ∧ Hid (t ++ rstQ c m (!h) (L.drop j) = RS) ∧ Lg Wt.vals 9 47 (w.heap.size + 2) sa sc s wr ∧ Lg Wt.vals 9 47 (w.heap.size + 2) ta tc t wr ∧ Hid (∀ i ∈ blkOf sa, i ∉ blkOf ta) ∧ Blk w.heap.size (mbc c) 28 wr ∧ Blk (w.heap.size + 1) (mbc m) 29 wr ∧ Below w.heap.size w wr ∧ w.heap.size + 2 ≤ wr.heap.size) (fun _ _ _ iv _ => n - (intOf iv).toNat)
  case atStart => exact ⟨0, 0, 0, none, 0, none, 0, [], [], false, by omega, rfl, rfl, rfl, rfl, ⟨rfl, rfl⟩, by show _ ≤ _; omega, hRD, hRS, Lg.none _ _ _, Lg.none _ _ _, by simp [Hid, blkOf], bc, bm, hB, by omega⟩
  case round =>
    clear bc bm hB hRD hRS
    obtain ⟨j, p, m', sa, sc, ta, tc, s, t, h, hj, rfl, rfl, rfl, rfl, HL, HQ, HR, HS3, hG, hT, HD, bc, bm, hB, hW⟩ := hrel
    rename World => wr
    by_cases hjn : j < n
    · have j0 : (j : Int) < (n : Int) := by omega
      have j1 : (0 : Int) ≤ (j : Int) := by omega
      obtain ⟨x, hx⟩ : ∃ k, L[j]? = some k := ⟨_, List.getElem?_eq_getElem (by rw [hn.out]; exact hjn)⟩
      have hxf := HF.out x (List.mem_of_getElem? hx)
      replace HR : Hid (s ++ ((if takeQ c m (!h) x = true then [x] else []) ++ rdyQ c m (openQ c m (!h) x) (L.drop (j + 1))) = RD) := by
        have h1 := HR.out
        rw [rdy_at c m _ L j x hx] at h1
        exact h1
      replace HS3 : Hid (t ++ ((if takeQ c m (!h) x = true then [] else [x]) ++ rstQ c m (openQ c m (!h) x) (L.drop (j + 1))) = RS) := by
        have h1 := HS3.out
        rw [rst_at c m _ L j x hx] at h1
        exact h1
      obtain ⟨b, o, rfl, _, hbl, hr⟩ := (HS.out.below hB).at Wt.vals_length j x hx
      have bx := blk_new wr x.arr 47
      have hb := below_box wr (.cells x.arr 47)
      have ps := svc_of x
      have pS := fun W => svc_ok c m x.p (svOf x.e) hxf.1 W
      rw [show svcB c m x.p (svOf x.e) = isQ c m x from rfl] at pS
      have pO := ord_ok (svOf x.e)
      rw [ordS_sv] at pO
      obtain ⟨v, hv⟩ : ∃ v, Hid (isQ c m x = v) := ⟨_, rfl⟩
      rw [hv.out] at pS
      have HV : Hid (isQ c m x = v) := hv
      obtain ⟨o, ho⟩ : ∃ v, Hid (ordB x.e = v) := ⟨_, rfl⟩
      rw [ho.out] at pO
      have HO : Hid (ordB x.e = o) := ho
      clear hv ho hx hxf
      go_upto_region 6 with (first | refine load_range rfl 47 _ rfl x.vals hr rfl Try.underlying47 rfl sizeWt ?_ | refine alloc_zero zeroWt rfl rfl ?_ | refine store_new rfl 47 _ _ rfl (cells := x.arr) rfl rfl sizeWt rfl x.arr_one ?_)
      try simp only [Act.put]
      replace bc := bc.below hb
      replace bm := bm.below hb
      replace hG := hG.below hb
      replace hT := hT.below hb
      generalize wr.alloc (Obj.cells x.arr 47) = W1 at bx hb bc bm hG hT ⊢
      replace hB := hB.trans (hb.mono hB.size)
      replace hW := Nat.le_trans hW hb.size
      clear hb hr hbl
      generalize wr.heap.size = z1 at bx ⊢
      go_wp2_with (refine load_blk rfl 47 _ rfl bx rfl Try.underlying47 rfl sizeWt ?_)
      refine (ps _).mono ?_
      rintro e2 W2 ⟨rfl, hb⟩
      replace bc := bc.below hb
      replace bm := bm.below hb
      replace hG := hG.below hb
      replace hT := hT.below hb
      replace bx := bx.below hb
      replace hB := hB.trans (hb.mono hB.size)
      replace hW := Nat.le_trans hW hb.size
      clear hb ps
      go_wp2_with (first | refine load_blk rfl 28 _ rfl bc rfl Try.underlying28 rfl sizeCt ?_ | refine load_blk rfl 29 _ rfl bm rfl Try.underlying29 rfl sizeMb ?_ | refine load_part rfl 42 _ rfl (o := 0) bx rfl x.p.vals x.place Try.underlying42 rfl sizePl ?_)
      refine (pS _).mono ?_
      rintro e3 W3 ⟨rfl, hb⟩
      replace bc := bc.below hb
      replace bm := bm.below hb
      replace hG := hG.below hb
      replace hT := hT.below hb
      replace bx := bx.below hb
      replace hB := hB.trans (hb.mono hB.size)
      replace hW := Nat.le_trans hW hb.size
      clear hb pS
      cases v with
      | false =>
        cases h with
        | true =>
          have hpb : (m' + 1) * 80 ≤ 140737488355328 := by have := HQ.out; omega
          have hpm : m' + 1 ≤ maxLen := by have := HQ.out; simp only [maxLen]; omega
          go_wp2_with (first | refine load_blk rfl 47 _ rfl bx rfl Try.underlying47 rfl sizeWt ?_ | (refine box_Wt rfl _ rfl x rfl ?_; intro W7 hl7 hb7; have hG7 := hT.below hb7; have hW7 := Nat.le_trans hW hb7.size) | (refine append_any Wt.vals_length rfl _ _ rfl Try.underlying22 hI hz0 hsz hby hzs hG7 hW7 HL.out.2 rfl (M := [x]) (m := 1) rfl (hl7.src Wt.vals_length Wt.vals_one Try.underlying22 1) rfl hpb hpm ?_; intro a8 c8 W8 hG8 hK8 hn8))
          have hO := hG
          have hO8 := (hO.below hb7).off hK8 (fun i hi => fun h => HD.out _ h hi)
          have c8' := (bc.below hb7).kp hK8 (fun h => by have := (hG7.in _ h).1; omega)
          have m8' := (bm.below hb7).kp hK8 (fun h => by have := (hG7.in _ h).1; omega)
          have hB7 := hB.trans (hb7.mono hB.size)
          have hB8 : Below w.heap.size w W8 := hB7.trans (hK8.below (fun i hi => by have := (hG7.in _ hi).1; omega) hB7.size)
          have hW8 := Nat.le_trans hW7 hK8.size
          have HD2 : Hid (∀ i ∈ blkOf sa, i ∉ blkOf a8) := fun i hi hi2 => by
            rcases hn8 i hi2 with h | h
            · exact HD.out i hi h
            · have := (hG.in i hi).2; have := hb7.size; omega
          have e1 : takeQ c m (!true) x = false := by unfold takeQ; rw [HV.out]; first | rfl | (cases ordB x.e <;> rfl)
          have e2 : openQ c m (!true) x = !true := by unfold openQ; rw [HV.out]; first | rfl | (cases ordB x.e <;> rfl)
          have HR2 := HR.out
          have HS2 := HS3.out
          rw [e1, e2] at HR2 HS2
          simp only [Bool.false_eq_true, if_false, List.nil_append, ← List.append_assoc] at HR2 HS2
          exact ⟨⟨j + 1, p, m' + 1, sa, sc, a8, c8, s, t ++ [x], true, by omega, by go_num, rfl, rfl, rfl, ⟨HL.out.1, by rw [List.length_append, HL.out.2]; rfl⟩, by have := HQ.out; show _ ≤ _; omega, HR2, HS2, hO8, hG8, HD2, c8', m8', hB8, hW8⟩, by simp [intOf]; omega⟩
        | false =>
          have hpb : (m' + 1) * 80 ≤ 140737488355328 := by have := HQ.out; omega
          have hpm : m' + 1 ≤ maxLen := by have := HQ.out; simp only [maxLen]; omega
          go_wp2_with (first | refine load_blk rfl 47 _ rfl bx rfl Try.underlying47 rfl sizeWt ?_ | (refine box_Wt rfl _ rfl x rfl ?_; intro W7 hl7 hb7; have hG7 := hT.below hb7; have hW7 := Nat.le_trans hW hb7.size) | (refine append_any Wt.vals_length rfl _ _ rfl Try.underlying22 hI hz0 hsz hby hzs hG7 hW7 HL.out.2 rfl (M := [x]) (m := 1) rfl (hl7.src Wt.vals_length Wt.vals_one Try.underlying22 1) rfl hpb hpm ?_; intro a8 c8 W8 hG8 hK8 hn8))
          refine (pO _).mono ?_
          rintro e6 W6 ⟨rfl, rfl⟩
          go_wp2_with fail
          have hO := hG
          have hO8 := (hO.below hb7).off hK8 (fun i hi => fun h => HD.out _ h hi)
          have c8' := (bc.below hb7).kp hK8 (fun h => by have := (hG7.in _ h).1; omega)
          have m8' := (bm.below hb7).kp hK8 (fun h => by have := (hG7.in _ h).1; omega)
          have hB7 := hB.trans (hb7.mono hB.size)
          have hB8 : Below w.heap.size w W6 := hB7.trans (hK8.below (fun i hi => by have := (hG7.in _ hi).1; omega) hB7.size)
          have hW6 := Nat.le_trans hW7 hK8.size
          have HD2 : Hid (∀ i ∈ blkOf sa, i ∉ blkOf a8) := fun i hi hi2 => by
            rcases hn8 i hi2 with h | h
            · exact HD.out i hi h
            · have := (hG.in i hi).2; have := hb7.size; omega
          have e1 : takeQ c m (!false) x = false := by unfold takeQ; rw [HV.out, HO.out]; first | (cases o <;> rfl) | rfl | (cases ordB x.e <;> rfl)
          have e2 : openQ c m (!false) x = !o := by unfold openQ; rw [HV.out, HO.out]; first | (cases o <;> rfl) | rfl | (cases ordB x.e <;> rfl)
          have HR2 := HR.out
          have HS2 := HS3.out
          rw [e1, e2] at HR2 HS2
          simp only [Bool.false_eq_true, if_false, List.nil_append, ← List.append_assoc] at HR2 HS2
          exact ⟨⟨j + 1, p, m' + 1, sa, sc, a8, c8, s, t ++ [x], o, by omega, by go_num, rfl, rfl, rfl, ⟨HL.out.1, by rw [List.length_append, HL.out.2]; rfl⟩, by have := HQ.out; show _ ≤ _; omega, HR2, HS2, hO8, hG8, HD2, c8', m8', hB8, hW6⟩, by simp [intOf]; omega⟩
      | true =>
        cases h with
        | false =>
          have hpb : (p + 1) * 80 ≤ 140737488355328 := by have := HQ.out; omega
          have hpm : p + 1 ≤ maxLen := by have := HQ.out; simp only [maxLen]; omega
          go_wp2_with (first | refine load_blk rfl 47 _ rfl bx rfl Try.underlying47 rfl sizeWt ?_ | (refine box_Wt rfl _ rfl x rfl ?_; intro W7 hl7 hb7; have hG7 := hG.below hb7; have hW7 := Nat.le_trans hW hb7.size) | (refine append_any Wt.vals_length rfl _ _ rfl Try.underlying22 hI hz0 hsz hby hzs hG7 hW7 HL.out.1 rfl (M := [x]) (m := 1) rfl (hl7.src Wt.vals_length Wt.vals_one Try.underlying22 1) rfl hpb hpm ?_; intro a8 c8 W8 hG8 hK8 hn8))
          have hO := hT
          have hO8 := (hO.below hb7).off hK8 (fun i hi => fun h => HD.out _ hi h)
          have c8' := (bc.below hb7).kp hK8 (fun h => by have := (hG7.in _ h).1; omega)
          have m8' := (bm.below hb7).kp hK8 (fun h => by have := (hG7.in _ h).1; omega)
          have hB7 := hB.trans (hb7.mono hB.size)
          have hB8 : Below w.heap.size w W8 := hB7.trans (hK8.below (fun i hi => by have := (hG7.in _ hi).1; omega) hB7.size)
          have hW8 := Nat.le_trans hW7 hK8.size
          have HD2 : Hid (∀ i ∈ blkOf a8, i ∉ blkOf ta) := fun i hi hi2 => by
            rcases hn8 i hi with h | h
            · exact HD.out i h hi2
            · have := (hT.in i hi2).2; have := hb7.size; omega
          have e1 : takeQ c m (!false) x = true := by unfold takeQ; rw [HV.out]; first | rfl | (cases ordB x.e <;> rfl)
          have e2 : openQ c m (!false) x = !false := by unfold openQ; rw [HV.out]; first | rfl | (cases ordB x.e <;> rfl)
          have HR2 := HR.out
          have HS2 := HS3.out
          rw [e1, e2] at HR2 HS2
          simp only [if_true, List.nil_append, ← List.append_assoc] at HR2 HS2
          exact ⟨⟨j + 1, p + 1, m', a8, c8, ta, tc, s ++ [x], t, false, by omega, by go_num, rfl, rfl, rfl, ⟨by rw [List.length_append, HL.out.1]; rfl, HL.out.2⟩, by have := HQ.out; show _ ≤ _; omega, HR2, HS2, hG8, hO8, HD2, c8', m8', hB8, hW8⟩, by simp [intOf]; omega⟩
        | true =>
          cases o with
          | true =>
            have hpb : (m' + 1) * 80 ≤ 140737488355328 := by have := HQ.out; omega
            have hpm : m' + 1 ≤ maxLen := by have := HQ.out; simp only [maxLen]; omega
            go_wp2_with fail
            refine (pO _).mono ?_
            rintro e6 W6 ⟨rfl, rfl⟩
            go_wp2_with (first | refine load_blk rfl 47 _ rfl bx rfl Try.underlying47 rfl sizeWt ?_ | (refine box_Wt rfl _ rfl x rfl ?_; intro W7 hl7 hb7; have hG7 := hT.below hb7; have hW7 := Nat.le_trans hW hb7.size) | (refine append_any Wt.vals_length rfl _ _ rfl Try.underlying22 hI hz0 hsz hby hzs hG7 hW7 HL.out.2 rfl (M := [x]) (m := 1) rfl (hl7.src Wt.vals_length Wt.vals_one Try.underlying22 1) rfl hpb hpm ?_; intro a8 c8 W8 hG8 hK8 hn8))
            have hO := hG
            have hO8 := (hO.below hb7).off hK8 (fun i hi => fun h => HD.out _ h hi)
            have c8' := (bc.below hb7).kp hK8 (fun h => by have := (hG7.in _ h).1; omega)
            have m8' := (bm.below hb7).kp hK8 (fun h => by have := (hG7.in _ h).1; omega)
            have hB7 := hB.trans (hb7.mono hB.size)
            have hB8 : Below w.heap.size w W8 := hB7.trans (hK8.below (fun i hi => by have := (hG7.in _ hi).1; omega) hB7.size)
            have hW8 := Nat.le_trans hW7 hK8.size
            have HD2 : Hid (∀ i ∈ blkOf sa, i ∉ blkOf a8) := fun i hi hi2 => by
              rcases hn8 i hi2 with h | h
              · exact HD.out i hi h
              · have := (hG.in i hi).2; have := hb7.size; omega
            have e1 : takeQ c m (!true) x = false := by unfold takeQ; rw [HV.out, HO.out]; first | rfl | (cases ordB x.e <;> rfl)
            have e2 : openQ c m (!true) x = !true := by unfold openQ; rw [HV.out, HO.out]; first | rfl | (cases ordB x.e <;> rfl)
            have HR2 := HR.out
            have HS2 := HS3.out
            rw [e1, e2] at HR2 HS2
            simp only [Bool.false_eq_true, if_false, List.nil_append, ← List.append_assoc] at HR2 HS2
            exact ⟨⟨j + 1, p, m' + 1, sa, sc, a8, c8, s, t ++ [x], true, by omega, by go_num, rfl, rfl, rfl, ⟨HL.out.1, by rw [List.length_append, HL.out.2]; rfl⟩, by have := HQ.out; show _ ≤ _; omega, HR2, HS2, hO8, hG8, HD2, c8', m8', hB8, hW8⟩, by simp [intOf]; omega⟩
          | false =>
            have hpb : (p + 1) * 80 ≤ 140737488355328 := by have := HQ.out; omega
            have hpm : p + 1 ≤ maxLen := by have := HQ.out; simp only [maxLen]; omega
            go_wp2_with fail
            refine (pO _).mono ?_
            rintro e6 W6 ⟨rfl, rfl⟩
            go_wp2_with (first | refine load_blk rfl 47 _ rfl bx rfl Try.underlying47 rfl sizeWt ?_ | (refine box_Wt rfl _ rfl x rfl ?_; intro W7 hl7 hb7; have hG7 := hG.below hb7; have hW7 := Nat.le_trans hW hb7.size) | (refine append_any Wt.vals_length rfl _ _ rfl Try.underlying22 hI hz0 hsz hby hzs hG7 hW7 HL.out.1 rfl (M := [x]) (m := 1) rfl (hl7.src Wt.vals_length Wt.vals_one Try.underlying22 1) rfl hpb hpm ?_; intro a8 c8 W8 hG8 hK8 hn8))
            have hO := hT
            have hO8 := (hO.below hb7).off hK8 (fun i hi => fun h => HD.out _ hi h)
            have c8' := (bc.below hb7).kp hK8 (fun h => by have := (hG7.in _ h).1; omega)
            have m8' := (bm.below hb7).kp hK8 (fun h => by have := (hG7.in _ h).1; omega)
            have hB7 := hB.trans (hb7.mono hB.size)
            have hB8 : Below w.heap.size w W8 := hB7.trans (hK8.below (fun i hi => by have := (hG7.in _ hi).1; omega) hB7.size)
            have hW8 := Nat.le_trans hW7 hK8.size
            have HD2 : Hid (∀ i ∈ blkOf a8, i ∉ blkOf ta) := fun i hi hi2 => by
              rcases hn8 i hi with h | h
              · exact HD.out i h hi2
              · have := (hT.in i hi2).2; have := hb7.size; omega
            have e1 : takeQ c m (!true) x = true := by unfold takeQ; rw [HV.out, HO.out]; first | rfl | (cases ordB x.e <;> rfl)
            have e2 : openQ c m (!true) x = !true := by unfold openQ; rw [HV.out, HO.out]; first | rfl | (cases ordB x.e <;> rfl)
            have HR2 := HR.out
            have HS2 := HS3.out
            rw [e1, e2] at HR2 HS2
            simp only [if_true, List.nil_append, ← List.append_assoc] at HR2 HS2
            exact ⟨⟨j + 1, p + 1, m', a8, c8, ta, tc, s ++ [x], t, true, by omega, by go_num, rfl, rfl, rfl, ⟨by rw [List.length_append, HL.out.1]; rfl, HL.out.2⟩, by have := HQ.out; show _ ≤ _; omega, HR2, HS2, hG8, hO8, HD2, c8', m8', hB8, hW8⟩, by simp [intOf]; omega⟩
    · obtain rfl : j = n := by omega
      have h1 := HR.out
      have h2 := HS3.out
      rw [List.drop_eq_nil_of_le (by rw [hn.out]; exact Nat.le_refl _)] at h1 h2
      rw [show rdyQ c m (!h) [] = [] from rfl, List.append_nil] at h1
      rw [show rstQ c m (!h) [] = [] from rfl, List.append_nil] at h2
      have e1 : RD.length = p := by rw [← h1]; exact HL.out.1
      have e2 : RS.length = m' := by rw [← h2]; exact HL.out.2
      rw [h1] at hG
      rw [h2] at hT
      clear h1 h2 HR HS3 bc bm
      go_wp2_with fail
      go_ret2
      exact ⟨⟨sa, sc, ta, tc, by rw [e1, e2]; rfl, hG.mono (by omega), hT.mono (by omega), HD.out⟩, hB⟩

end Go.Proofs.Ytmnpbjaofemelaa
