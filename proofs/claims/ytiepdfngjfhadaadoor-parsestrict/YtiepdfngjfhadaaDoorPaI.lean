/-
  What the program's Print and May answer: a call's request, or nothing, where there is none.
  Conditions: the library's variables and the program's tables hold what the program's text lays; a call as an argument.
-/
import Derived.Test.YtiepdfngjfhadaaDoorPaH
namespace Go.Proofs.YtiepdfngjfhadaaDoor
set_option maxRecDepth 10000
open Go.RowKit Go.Sort
set_option linter.unusedVariables false
set_option linter.unusedSimpArgs false

theorem join_joinL : ∀ L : List (List UInt8), Lib.join L [32] = joinL L
  | [] => rfl
  | [a] => Lib.join_one a [32]
  | a :: b :: r => by
    have ih := join_joinL (b :: r)
    rw [Lib.join_cons] at ih ⊢
    rw [joinL, ← ih]
    simp [Lib.joinTail]
theorem writeS_may {c : Ca} (h : MayC c) : writeS c = printL c := by
  rw [← join_wordsC h]
  unfold writeS
  rw [join_joinL]
  congr 1
  rcases h with ⟨q, ha⟩ | ⟨q, ha⟩ | ⟨q, a1, a2, ha⟩ | ⟨q, ha⟩ | ⟨q, a1, a2, ha⟩ | ⟨q, a1, a2, ha⟩ | ⟨q, a1, a2, a3, a4, a5, ha⟩
  · simp only [wrL, wordsC, q]; rfl
  · simp only [wrL, wordsC, q]; rfl
  · simp only [wrL, wordsC, q]; rfl
  · simp only [wrL, wordsC, q]; rfl
  · simp only [wrL, wordsC, q]; rfl
  · simp only [wrL, wordsC, q]; rfl
  · have hs : svB c.sv = sB c.sv.toNat := by
      unfold svB
      rw [if_pos ⟨a3, by omega⟩]
    simp only [wrL, wordsC, q, hs]
    rfl
theorem Ca.fit.fits {c : Ca} (h : c.fit) : Fits c := ⟨h.2.1, h.2.2.1⟩
theorem strB_inj {a b : List UInt8} (h : strB a = strB b) : a = b := by rw [← bL_strB a, h, bL_strB]
/- What is written is the call's request where it may be: nothing else is read back as this call. -/
theorem write_back {c : Ca} (hf : Fits c) {o : Option Ca} (h : IsCall (writeS c) o) : (mayC c = true → o = some c ∧ outC c = writeS c) ∧ (o = some c → mayC c = true) := by
  refine ⟨fun hm => ?_, fun ho => ?_⟩
  · have hM := (mayC_iff c).1 hm
    have e := writeS_may hM
    have ho : outC c = writeS c := by
      unfold outC
      rw [if_pos hm, e]
    have h2 := isCall_out hf hm
    rw [ho] at h2
    exact ⟨h.one h2, ho⟩
  · rw [ho] at h
    exact (isCall_back h).1

set_option maxHeartbeats 4000000 in
theorem print_ok (c : Ca) (hf : c.fit) (w : World) (hE : Te w) : Calls Tryd.prog 13 #[.agg c.arr] w fun e w' => e = .returned (.string (strB (outC c))) ∧ Below w.heap.size w w' := by
  have b1 := blk_new w c.arr 24
  have hB := below_box w (.cells c.arr 24)
  have hsz := writeS_len c hf
  have hwb := fun o => @write_back c hf.fits o
  replace hE := hE.next hB
  have pw := write_ok c hf
  go_enter Tryd.func13, Tryd.ntmps13
  go_upto_region 1 with fail
  try simp only [Act.put, List.setIfInBounds_toArray, List.set_cons_zero, List.set_cons_succ]
  generalize w.alloc (Obj.cells c.arr 24) = W at b1 hB hE ⊢
  obtain ⟨z, hz⟩ : ∃ z, Hid (w.heap.size = z) := ⟨_, rfl⟩
  rw [hz.out] at b1 ⊢
  go_wp2_with (refine load_blk rfl 24 _ rfl b1 rfl Tryd.underlying24 rfl sizeCa ?_)
  refine (pw _ hE).mono ?_
  rintro e w1 ⟨rfl, hb⟩
  replace b1 := b1.below hb
  replace hE := hE.next hb
  replace hB := below_next hB hb
  clear hb pw
  have pp := parse_ok (strB (writeS c)) (by rw [strB_size]; exact hsz) w1 hE
  rw [bL_strB] at pp
  clear hsz
  go_wp2_with fail
  refine pp.mono ?_
  rintro e w2 ⟨⟨o, ho, rfl⟩, hb⟩
  replace b1 := b1.below hb
  replace hB := below_next hB hb
  replace hwb := hwb o ho
  clear hb pp ho
  cases o with
  | none =>
    have HO : Hid (outC c = []) := by
      show _ = _
      rw [outC_iff]
      cases hm : mayC c
      · rfl
      · exact absurd (hwb.1 hm).1 (by simp)
    clear hwb
    go_wp2_with (first | refine alloc_zero zeroCa rfl rfl ?_ | refine store_new rfl 24 _ _ rfl (cells := Ca.zero.arr) rfl rfl sizeCa rfl (Ca.arr_one _) ?_)
    go_ret
    exact ⟨by rw [HO.out]; rfl, hB.alloc hB.size _⟩
  | some b =>
    by_cases hbc : b = c
    · subst hbc
      have HO : Hid (outC b = writeS b) := (hwb.1 (hwb.2 rfl)).2
      have nq := neqCa b b true (Ca.same_self b)
      clear hwb
      have b2 := blk_new w2 b.arr 24
      have b3 := b1.alloc (.cells b.arr 24)
      go_wp2_with (first | refine alloc_zero zeroCa rfl rfl ?_ | refine store_new rfl 24 _ _ rfl (cells := b.arr) rfl rfl sizeCa rfl (Ca.arr_one _) ?_ | refine load_want (by rfl) 24 _ rfl b2 rfl Tryd.underlying24 rfl sizeCa ?_ | refine load_want (by rfl) 24 _ rfl b3 rfl Tryd.underlying24 rfl sizeCa ?_)
      go_ret
      exact ⟨by rw [HO.out]; rfl, hB.alloc hB.size _⟩
    · have HO : Hid (outC c = []) := by
        show _ = _
        rw [outC_iff]
        cases hm : mayC c
        · rfl
        · exact absurd (Option.some.inj (hwb.1 hm).1) hbc
      have nq := neqCa b c false (Ca.same_no hbc)
      clear hwb hbc
      have b2 := blk_new w2 b.arr 24
      have b3 := b1.alloc (.cells b.arr 24)
      go_wp2_with (first | refine alloc_zero zeroCa rfl rfl ?_ | refine store_new rfl 24 _ _ rfl (cells := b.arr) rfl rfl sizeCa rfl (Ca.arr_one _) ?_ | refine load_want (by rfl) 24 _ rfl b2 rfl Tryd.underlying24 rfl sizeCa ?_ | refine load_want (by rfl) 24 _ rfl b3 rfl Tryd.underlying24 rfl sizeCa ?_)
      go_ret
      exact ⟨by rw [HO.out]; rfl, hB.alloc hB.size _⟩

set_option maxHeartbeats 4000000 in
theorem may_ok (c : Ca) (hf : c.fit) (w : World) (hE : Te w) : Calls Tryd.prog 11 #[.agg c.arr] w fun e w' => e = .returned (.bool (mayC c)) ∧ Below w.heap.size w w' := by
  have b1 := blk_new w c.arr 24
  have hB := below_box w (.cells c.arr 24)
  replace hE := hE.next hB
  have pp := print_ok c hf
  have hd : (strB (outC c)).toList.isEmpty = !mayC c := by
    rw [ByteArray.toList_eq]
    show (outC c).isEmpty = _
    cases hm : mayC c
    · rw [(outC_iff c).2 hm]
      rfl
    · have : outC c ≠ [] := fun e => by rw [(outC_iff c).1 e] at hm; cases hm
      simpa using this
  generalize strB (outC c) = a at pp hd
  go_enter Tryd.func11, Tryd.ntmps11
  go_upto_region 1 with fail
  try simp only [Act.put, List.setIfInBounds_toArray, List.set_cons_zero, List.set_cons_succ]
  generalize w.alloc (Obj.cells c.arr 24) = W at b1 hB hE ⊢
  generalize w.heap.size = z at b1 ⊢
  go_wp2_with (refine load_blk rfl 24 _ rfl b1 rfl Tryd.underlying24 rfl sizeCa ?_)
  refine (pp _ hE).mono ?_
  rintro e w1 ⟨rfl, hb⟩
  replace hB := below_next hB hb
  clear hb pp
  obtain ⟨m, hm⟩ : ∃ m, Hid (mayC c = m) := ⟨_, rfl⟩
  rw [hm.out] at hd
  go_wp2_with fail
  go_ret
  exact ⟨by rw [hm.out]; rfl, hB⟩

end Go.Proofs.YtiepdfngjfhadaaDoor
