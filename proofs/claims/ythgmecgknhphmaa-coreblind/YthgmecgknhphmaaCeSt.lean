/-
  What a core does at an event: what the law's own call answers (congresslaw13.step).
  Of a Self from 0 to 7; its numbers are such as its types hold; what it keeps takes no more bytes than a list may.
-/
import Derived.Test.YthgmecgknhphmaaCeX
import Derived.Test.YthgmecgknhphmaaCeZ
namespace Go.Proofs.Ythgmecgknhphmaa
set_option maxRecDepth 10000
open Go.RowKit Go.Sort
set_option linter.unusedVariables false

def stepS (c : Co) (L : List Kt) (e : Ev) : Sg := if e.t = true then tickS c L e.f else recvS c L e.p
def Did2 (s : Sg) (B : Nat) (e : Ending) (w' : World) : Prop :=
  ∃ a k ta tk, e = .returned (.tuple #[.agg (coc (s.c.kp a s.L.length k)), .slice ta s.t.length tk]) ∧ Li Kt.vals B a s.L w' ∧ Li Hp.vals B ta s.t w'
theorem stepS_len (c : Co) (L : List Kt) (e : Ev) : (stepS c L e).L.length ≤ L.length + 3 ∧ (stepS c L e).t.length ≤ 4 := by
  unfold stepS
  split
  · have := tickS_len c L e.f; omega
  · exact recvS_len c L e.p
theorem stepS_fit {c : Co} (h : c.fit) (s : Nat) (hs : s < 8) (hc : c.self = (s : Int)) (L : List Kt) (e : Ev) : (stepS c L e).c.fit := by
  unfold stepS
  split
  · exact fit_tick h s hs hc L e.f
  · exact fit_recv h L e.p

set_option maxHeartbeats 8000000 in
theorem step_ok (c : Co) (L : List Kt) (e : Ev) (s : Nat) (hs : s < 8) (hcs : c.self = (s : Int)) (kf : c.fit) (a : Option Addr) (k : Nat) (hl : L.length * 352 ≤ 140737488351232) (w : World) (lS : Li Kt.vals 0 a L w) :
    Calls Try.prog 22 #[.agg (coc (c.kp a L.length k)), .agg e.arr] w fun r w' => Did2 (stepS c L e) w.heap.size r w' ∧ Below w.heap.size w w' := by
  obtain ⟨q, hq⟩ : ∃ q, Hid (c.kp a L.length k = q) := ⟨_, rfl⟩
  have pt := fun u h => ctick_kp c L e.f s hs hcs kf a k hl u h
  have pr := fun u h => crecv_kp c L e.p s hs hcs kf a k hl u h
  obtain ⟨S, hS⟩ : ∃ S, Hid (stepS c L e = S) := ⟨_, rfl⟩
  obtain ⟨t, ht⟩ : ∃ t, e.t = t := ⟨_, rfl⟩
  have e1 : t = true → tickS c L e.f = S := fun h => by rw [← hS.out, stepS, ht, h, if_pos rfl]
  have e2 : t = false → recvS c L e.p = S := fun h => by rw [← hS.out, stepS, ht, h, if_neg (by simp)]
  rw [hS.out, hq.out]
  rw [hq.out] at pt pr
  obtain ⟨a0, a1, a2', hB⟩ := three_blk (T0 := 35) (T1 := 61) (T2 := 35) (C0 := coc q) (C1 := e.arr) (C2 := coc Co.zero) (w := w) rfl
  clear hS hq
  go_enter Try.func22, Try.ntmps22
  go_upto_region 1 with (refine alloc_zero zeroCo rfl rfl ?_)
  try simp only [Act.put, List.setIfInBounds_toArray, List.set_cons_zero, List.set_cons_succ]
  try simp only [alloc_size]
  generalize ((w.alloc (Obj.cells (coc q) 35)).alloc (Obj.cells e.arr 61)).alloc (Obj.cells (coc Co.zero) 35) = W at a0 a1 a2' hB ⊢
  have hW2 := a2'.lt
  have c0 : W.cell? ⟨w.heap.size + 1, 0, none⟩ = some (.bool t) := (a1.cell 0 _ e.get_t).trans (by rw [ht])
  clear ht
  cases t with
  | true =>
    have e3 := e1 (by simp)
    rw [e3] at pt
    clear e1 e2 e3 pr
    go_upto_region 2 with fail
    clear c0
    go_wp2_with (first | refine load_blk rfl 35 _ rfl a0 rfl Try.underlying35 rfl sizeCo ?_ | refine load_part rfl 41 _ rfl (o := 1) a1 rfl (frv e.f) e.p_f Try.underlying41 rfl sizeFr ?_)
    refine (pt _ (lS.below hB)).mono ?_
    rintro r w1 ⟨⟨a2, k2, ta, tk, rfl, l2, m2⟩, hb⟩
    replace a2' := a2'.below hb
    replace hB := hB.trans (hb.mono hB.size)
    clear hb a0 a1
    obtain ⟨D, hD⟩ : ∃ D, Hid (S.c.kp a2 S.L.length k2 = D) := ⟨_, rfl⟩
    rw [hD.out]
    have hb := below_box w1 (.cells (coc D) 35)
    have y0 := blk_new w1 (coc D) 35
    have hpl := a2'.lt
    go_upto_region 3 with (first | refine alloc_zero zeroCo rfl rfl ?_ | refine store_new rfl 35 _ _ rfl (cells := coc D) rfl rfl sizeCo rfl (coc_one _) ?_)
    try simp only [Act.put, List.setIfInBounds_toArray, List.set_cons_zero, List.set_cons_succ]
    generalize w1.alloc (Obj.cells (coc D) 35) = W1 at y0 hb ⊢
    replace a2' := a2'.below hb
    replace l2 := l2.below hb
    replace m2 := m2.below hb
    replace hB := hB.trans (hb.mono hB.size)
    clear hb 
    go_wp2_with (first | refine load_blk rfl 35 _ rfl y0 rfl Try.underlying35 rfl sizeCo ?_ | (refine store_part rfl 35 _ _ rfl (off := 0) (cells := coc D) a2' rfl rfl sizeCo (Nat.le_refl _) (coc_one _) ?_; intro w9 b9 k9; rw [Co.all] at b9; have hB9 : Below w.heap.size w w9 := hB.trans (k9.below1 (by omega) hB.size)))
    replace l2 := l2.off k9 (fun p hp => by simp at hp; subst hp; exact Off.li l2 _ (.inl (by omega)))
    replace m2 := m2.off k9 (fun p hp => by simp at hp; subst hp; exact Off.li m2 _ (.inl (by omega)))
    exact bodyPost_ret (w := w9) (v := .tuple #[.agg (coc D), .slice ta S.t.length tk]) (ret_two rfl rfl b9 Try.underlying35 rfl sizeCo rfl) rfl ⟨⟨a2, k2, ta, tk, by rw [hD.out], l2.mono (by omega), m2.mono (by omega)⟩, hB9⟩
  | false =>
    have e3 := e2 (by simp)
    rw [e3] at pr
    clear e1 e2 e3 pt
    go_upto_region 4 with fail
    clear c0
    go_wp2_with (first | refine load_blk rfl 35 _ rfl a0 rfl Try.underlying35 rfl sizeCo ?_ | refine load_part rfl 50 _ rfl (o := 37) a1 rfl (pkl e.p) e.p_p Try.underlying50 rfl sizePk ?_)
    refine (pr _ (lS.below hB)).mono ?_
    rintro r w1 ⟨⟨a2, k2, ta, tk, rfl, l2, m2⟩, hb⟩
    replace a2' := a2'.below hb
    replace hB := hB.trans (hb.mono hB.size)
    clear hb a0 a1
    obtain ⟨D, hD⟩ : ∃ D, Hid (S.c.kp a2 S.L.length k2 = D) := ⟨_, rfl⟩
    rw [hD.out]
    have hb := below_box w1 (.cells (coc D) 35)
    have y0 := blk_new w1 (coc D) 35
    have hpl := a2'.lt
    go_upto_region 5 with (first | refine alloc_zero zeroCo rfl rfl ?_ | refine store_new rfl 35 _ _ rfl (cells := coc D) rfl rfl sizeCo rfl (coc_one _) ?_)
    try simp only [Act.put, List.setIfInBounds_toArray, List.set_cons_zero, List.set_cons_succ]
    generalize w1.alloc (Obj.cells (coc D) 35) = W1 at y0 hb ⊢
    replace a2' := a2'.below hb
    replace l2 := l2.below hb
    replace m2 := m2.below hb
    replace hB := hB.trans (hb.mono hB.size)
    clear hb 
    go_wp2_with (first | refine load_blk rfl 35 _ rfl y0 rfl Try.underlying35 rfl sizeCo ?_ | (refine store_part rfl 35 _ _ rfl (off := 0) (cells := coc D) a2' rfl rfl sizeCo (Nat.le_refl _) (coc_one _) ?_; intro w9 b9 k9; rw [Co.all] at b9; have hB9 : Below w.heap.size w w9 := hB.trans (k9.below1 (by omega) hB.size)))
    replace l2 := l2.off k9 (fun p hp => by simp at hp; subst hp; exact Off.li l2 _ (.inl (by omega)))
    replace m2 := m2.off k9 (fun p hp => by simp at hp; subst hp; exact Off.li m2 _ (.inl (by omega)))
    exact bodyPost_ret (w := w9) (v := .tuple #[.agg (coc D), .slice ta S.t.length tk]) (ret_two rfl rfl b9 Try.underlying35 rfl sizeCo rfl) rfl ⟨⟨a2, k2, ta, tk, by rw [hD.out], l2.mono (by omega), m2.mono (by omega)⟩, hB9⟩

end Go.Proofs.Ythgmecgknhphmaa
