/-
  Calls whose answers the document fixes: the program answers so.
  Conditions: the library's variables and the program's tables hold what the program's text lays.
-/
import Derived.Test.YtiepdfngjfhadaaDoorPaI
namespace Go.Proofs.YtiepdfngjfhadaaDoor
set_option maxRecDepth 10000
open Go.RowKit Go.Sort
set_option linter.unusedVariables false
set_option linter.unusedSimpArgs false

def fX : Ca := Ca.mk 6 9 0 0 1 3 { data := #[104, 105, 32, 116, 104, 101, 114, 101] }
theorem fix0 : IsCall (bL { data := #[115, 101, 110, 100, 32, 57, 32, 49, 32, 115, 97, 102, 101, 32, 61, 104, 105, 32, 116, 104, 101, 114, 101] }) (some fX) := IsCall_of (s := [115, 101, 110, 100, 32, 57, 32, 49, 32, 115, 97, 102, 101, 32, 61, 104, 105, 32, 116, 104, 101, 114, 101]) (by
  show IsW (wordsL 4 [115, 101, 110, 100, 32, 57, 32, 49, 32, 115, 97, 102, 101, 32, 61, 104, 105, 32, 116, 104, 101, 114, 101]) _
  rw [show wordsL 4 [115, 101, 110, 100, 32, 57, 32, 49, 32, 115, 97, 102, 101, 32, 61, 104, 105, 32, 116, 104, 101, 114, 101] = [kindW 6, [57], [49], servW 3, 61 :: bL { data := #[104, 105, 32, 116, 104, 101, 114, 101] }] from by decide]
  exact w_ok6 (n := 9) (g := 1) (k := 3) ⟨by decide, by decide⟩ (by decide) (by decide) (by decide) rfl (by decide) rfl)
theorem fix1 : IsCall (bL { data := #[106, 111, 105, 110, 32, 57, 32, 56] }) none := IsCall_of (s := [106, 111, 105, 110, 32, 57, 32, 56]) (by
  show IsW (wordsL 4 [106, 111, 105, 110, 32, 57, 32, 56]) _
  rw [show wordsL 4 [106, 111, 105, 110, 32, 57, 32, 56] = [kindW 4, [57], [56]] from by decide]
  exact w_grp (by decide) (by decide) (fun n hn e => by
    have := digs_inj (e.trans (show [56] = digs 8 from by decide))
    omega))
theorem fix2 : IsCall (bL { data := #[106, 111, 105, 110, 32, 32, 57, 32, 49] }) none := IsCall_of (s := [106, 111, 105, 110, 32, 32, 57, 32, 49]) (by
  show IsW (wordsL 4 [106, 111, 105, 110, 32, 32, 57, 32, 49]) _
  rw [show wordsL 4 [106, 111, 105, 110, 32, 32, 57, 32, 49] = [kindW 4, [], [57], [49]] from by decide]
  exact w_len (by decide) (by decide))
theorem fix3 : IsCall (bL { data := #[106, 111, 105, 110, 32, 48, 57, 32, 49] }) none := IsCall_of (s := [106, 111, 105, 110, 32, 48, 57, 32, 49]) (by
  show IsW (wordsL 4 [106, 111, 105, 110, 32, 48, 57, 32, 49]) _
  rw [show wordsL 4 [106, 111, 105, 110, 32, 48, 57, 32, 49] = [kindW 4, [48, 57], [49]] from by decide]
  exact w_num (by decide) (by decide) (fun n _ e => by
    obtain ⟨b, l, h1, h2⟩ := digs_head n
    rw [e] at h1
    have h3 := List.cons.inj h1
    have := h2 (by rw [← h3.1]; rfl)
    rw [this] at h3
    cases h3.2))
theorem fix4 : IsCall (bL { data := #[111, 112, 101, 110, 32] }) none := IsCall_of (s := [111, 112, 101, 110, 32]) (by
  show IsW (wordsL 4 [111, 112, 101, 110, 32]) _
  rw [show wordsL 4 [111, 112, 101, 110, 32] = [kindW 0, []] from by decide]
  exact w_len (by decide) (by decide))

set_option maxHeartbeats 8000000 in
theorem fixed_ok (w : World) (hE : Te w) : Calls Tryd.prog 10 #[] w fun e w' => e = .returned (.bool true) ∧ Below w.heap.size w w' := by
  have hB := Below.refl w.heap.size w
  have hf : fX.fit := by unfold fX Ca.fit; decide
  have hmy : mayC fX = true := (isCall_back fix0).1
  have hou : strB (outC fX) = { data := #[115, 101, 110, 100, 32, 57, 32, 49, 32, 115, 97, 102, 101, 32, 61, 104, 105, 32, 116, 104, 101, 114, 101] } := by rw [(isCall_back fix0).2]; rfl
  have hq : ∀ w, (binOp .eql 24 (.agg fX.arr) (.agg #[.int .i64 6, .int .u64 9, .int .u64 0, .int .i64 0, .int .i64 1, .int .i64 3, .string { data := #[104, 105, 32, 116, 104, 101, 114, 101] }])).run Tryd.prog w = .ok (.bool true) w := eqlCa fX fX true (Ca.same_self fX)
  go_enter Tryd.func10, Tryd.ntmps10
  go_wp2_with fail
  refine (parse_ok { data := #[115, 101, 110, 100, 32, 57, 32, 49, 32, 115, 97, 102, 101, 32, 61, 104, 105, 32, 116, 104, 101, 114, 101] } (by decide) _ hE).mono ?_
  rintro e w1 ⟨⟨o, ho, rfl⟩, hb⟩
  obtain rfl := IsCall.one ho fix0
  clear ho
  replace hE := hE.next hb
  replace hB := below_next hB hb
  have b1 := blk_new w1 fX.arr 24
  have hb2 := below_box w1 (.cells fX.arr 24)
  replace hE := hE.next hb2
  replace hB := below_next hB hb2
  clear hb hb2
  go_upto_region 2 with (first | refine alloc_zero zeroCa rfl rfl ?_ | refine store_new rfl 24 _ _ rfl (cells := fX.arr) rfl rfl sizeCa rfl (Ca.arr_one _) ?_)
  try simp only [Act.put, List.setIfInBounds_toArray, List.set_cons_zero, List.set_cons_succ]
  generalize w1.alloc (Obj.cells fX.arr 24) = W1 at b1 hE hB ⊢
  generalize w1.heap.size = z at b1 ⊢
  go_wp2_with fail
  refine (parse_ok { data := #[106, 111, 105, 110, 32, 57, 32, 56] } (by decide) _ hE).mono ?_
  rintro e u1 ⟨⟨o, ho, rfl⟩, hb⟩
  obtain rfl := IsCall.one ho fix1
  clear ho
  replace b1 := b1.below hb
  replace hE := hE.next hb
  replace hB := below_next hB hb
  clear hb
  have hb := below_box u1 (.cells Ca.zero.arr 24)
  replace b1 := b1.below hb
  replace hE := hE.next hb
  replace hB := below_next hB hb
  clear hb
  go_upto_region 3 with (first | refine alloc_zero zeroCa rfl rfl ?_ | refine store_new rfl 24 _ _ rfl (cells := Ca.zero.arr) rfl rfl sizeCa rfl (Ca.arr_one _) ?_)
  try simp only [Act.put, List.setIfInBounds_toArray, List.set_cons_zero, List.set_cons_succ]
  generalize u1.alloc (Obj.cells Ca.zero.arr 24) = W2 at b1 hE hB ⊢
  go_wp2_with fail
  refine (parse_ok { data := #[106, 111, 105, 110, 32, 32, 57, 32, 49] } (by decide) _ hE).mono ?_
  rintro e u2 ⟨⟨o, ho, rfl⟩, hb⟩
  obtain rfl := IsCall.one ho fix2
  clear ho
  replace b1 := b1.below hb
  replace hE := hE.next hb
  replace hB := below_next hB hb
  clear hb
  have hb := below_box u2 (.cells Ca.zero.arr 24)
  replace b1 := b1.below hb
  replace hE := hE.next hb
  replace hB := below_next hB hb
  clear hb
  go_upto_region 4 with (first | refine alloc_zero zeroCa rfl rfl ?_ | refine store_new rfl 24 _ _ rfl (cells := Ca.zero.arr) rfl rfl sizeCa rfl (Ca.arr_one _) ?_)
  try simp only [Act.put, List.setIfInBounds_toArray, List.set_cons_zero, List.set_cons_succ]
  generalize u2.alloc (Obj.cells Ca.zero.arr 24) = W3 at b1 hE hB ⊢
  go_wp2_with fail
  refine (parse_ok { data := #[106, 111, 105, 110, 32, 48, 57, 32, 49] } (by decide) _ hE).mono ?_
  rintro e u3 ⟨⟨o, ho, rfl⟩, hb⟩
  obtain rfl := IsCall.one ho fix3
  clear ho
  replace b1 := b1.below hb
  replace hE := hE.next hb
  replace hB := below_next hB hb
  clear hb
  have hb := below_box u3 (.cells Ca.zero.arr 24)
  replace b1 := b1.below hb
  replace hE := hE.next hb
  replace hB := below_next hB hb
  clear hb
  go_upto_region 5 with (first | refine alloc_zero zeroCa rfl rfl ?_ | refine store_new rfl 24 _ _ rfl (cells := Ca.zero.arr) rfl rfl sizeCa rfl (Ca.arr_one _) ?_)
  try simp only [Act.put, List.setIfInBounds_toArray, List.set_cons_zero, List.set_cons_succ]
  generalize u3.alloc (Obj.cells Ca.zero.arr 24) = W4 at b1 hE hB ⊢
  go_wp2_with fail
  refine (parse_ok { data := #[111, 112, 101, 110, 32] } (by decide) _ hE).mono ?_
  rintro e u4 ⟨⟨o, ho, rfl⟩, hb⟩
  obtain rfl := IsCall.one ho fix4
  clear ho
  replace b1 := b1.below hb
  replace hE := hE.next hb
  replace hB := below_next hB hb
  clear hb
  have hb := below_box u4 (.cells Ca.zero.arr 24)
  replace b1 := b1.below hb
  replace hE := hE.next hb
  replace hB := below_next hB hb
  clear hb
  go_upto_region 6 with (first | refine alloc_zero zeroCa rfl rfl ?_ | refine store_new rfl 24 _ _ rfl (cells := Ca.zero.arr) rfl rfl sizeCa rfl (Ca.arr_one _) ?_)
  try simp only [Act.put, List.setIfInBounds_toArray, List.set_cons_zero, List.set_cons_succ]
  generalize u4.alloc (Obj.cells Ca.zero.arr 24) = W5 at b1 hE hB ⊢
  have pp := print_ok fX hf
  have pm := may_ok fX hf
  have hd : ((strB (outC fX)).toList == [115, 101, 110, 100, 32, 57, 32, 49, 32, 115, 97, 102, 101, 32, 61, 104, 105, 32, 116, 104, 101, 114, 101]) = true := same_lit _ _ true (by rw [hou]; rfl)
  rw [hmy] at pm
  clear hou hmy hf
  generalize strB (outC fX) = a at pp hd
  go_wp2_with (refine load_want (by rfl) 24 _ rfl b1 rfl Tryd.underlying24 rfl sizeCa ?_)
  refine (pp _ hE).mono ?_
  rintro e w6 ⟨rfl, hb⟩
  replace b1 := b1.below hb
  replace hE := hE.next hb
  replace hB := below_next hB hb
  clear hb pp
  go_wp2_with (refine load_want (by rfl) 24 _ rfl b1 rfl Tryd.underlying24 rfl sizeCa ?_)
  refine (pm _ hE).mono ?_
  rintro e w7 ⟨rfl, hb⟩
  replace hB := below_next hB hb
  clear hb pm
  go_wp2_with fail
  go_ret
  exact ⟨rfl, hB⟩

end Go.Proofs.YtiepdfngjfhadaaDoor
