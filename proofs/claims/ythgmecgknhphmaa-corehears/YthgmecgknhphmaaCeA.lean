/-
  Whether a core gathers, how many frames it sent, how it is made ready for what comes; what it tells, what it promises: what each call answers (core.Gathers, ownCount, begin, tell, promise).
  Of a Self from 0 to 7 where its count is asked for; lists take no more bytes than a list may.
-/
import Derived.Test.YthgmecgknhphmaaCeU
import Derived.Test.YthgmecgknhphmaaBase
import Derived.Test.YthgmecgknhphmaaKtB
import Derived.Test.YthgmecgknhphmaaGaA
import Derived.Test.YthgmecgknhphmaaKtG
namespace Go.Proofs.Ythgmecgknhphmaa
set_option maxRecDepth 10000
set_option linter.unusedSimpArgs false
open Go.RowKit Go.Sort
set_option linter.unusedVariables false

theorem gathers_ok (c : Co) (w : World) : Calls Try.prog 17 #[.agg (coc c)] w fun e w' => e = .returned (.bool (gathB c)) ∧ Below w.heap.size w w' := by
  obtain ⟨t, ht⟩ : ∃ t, Idn.same c.pr c.conf = t := ⟨_, rfl⟩
  have e : gathB c = !t := by rw [gathB, ht]
  rw [e]
  have k1 : ∀ w, (binOp .neq 27 (.agg c.pr.vals.toArray) (.agg c.conf.vals.toArray)).run Try.prog w = .ok (.bool (!t)) w := neqIdn _ _ t ht
  have a0 := blk_new w (coc c) 35
  have hB : Below w.heap.size w (w.alloc (.cells (coc c) 35)) := below_box w _
  clear ht e
  go_enter Try.func17, Try.ntmps17
  go_upto_region 1 with fail
  generalize w.alloc (Obj.cells (coc c) 35) = W at a0 hB ⊢
  go_wp2_with (first | refine load_part rfl 27 _ rfl (o := 40) a0 rfl c.pr.vals c.p_pr Try.underlying27 rfl sizeIdn ?_ | refine load_part rfl 27 _ rfl (o := 20) a0 rfl c.conf.vals c.p_conf Try.underlying27 rfl sizeIdn ?_)
  go_ret
  exact ⟨rfl, hB⟩

theorem own_ok (c : Co) (s : Nat) (hs : s < 8) (hc : c.self = (s : Int)) (w : World) : Calls Try.prog 42 #[.agg (coc c)] w fun e w' => e = .returned (.int .u32 (ownN c : Int)) ∧ Below w.heap.size w w' := by
  have a0 := blk_new w (coc c) 35
  have hB : Below w.heap.size w (w.alloc (.cells (coc c) 35)) := below_box w _
  have eo : ownN c = c.count s := by rw [ownN, hc, Int.toNat_natCast]
  rw [eo]
  have s0 : (s : Int) < 8 := by omega
  have s1 : (0 : Int) ≤ (s : Int) := by omega
  go_enter Try.func42, Try.ntmps42
  go_upto_region 1 with fail
  generalize w.alloc (Obj.cells (coc c) 35) = W at a0 hB ⊢
  have c0 := a0.cell 0 (.int .i64 c.self) rfl
  rw [hc] at c0
  have c1 := a0.cell (31 + s) _ (c.get_count s hs)
  clear a0 hc eo
  go_wp2_with fail
  go_ret
  exact ⟨rfl, hB⟩

def Begun (c : Co) (L : List Kt) (B : Nat) (e : Ending) (w' : World) : Prop := ∃ a k, e = .returned (.agg (unc (c.kp a L.length k) (.slice none 0 0))) ∧ Lg Kt.vals 38 64 B a k L w'
set_option maxHeartbeats 2000000 in
theorem begin_ok (c : Co) (L : List Kt) (hn : c.kn = L.length) (hl : L.length * 352 ≤ 140737488355328) (w : World) (lS : Li Kt.vals 0 c.ka L w) : Calls Try.prog 28 #[.agg (coc c)] w fun e w' => Begun c L w.heap.size e w' ∧ Below w.heap.size w w' := by
  obtain ⟨a0, a1, hB⟩ := two_blk (T0 := 35) (T1 := 78) (C0 := coc c) (C1 := unc Co.zero (.slice none 0 0)) (w := w) rfl
  go_enter Try.func28, Try.ntmps28
  go_upto_region 1 with (refine alloc_zero zeroUn rfl rfl ?_)
  try simp only [Act.put, List.setIfInBounds_toArray, List.set_cons_zero, List.set_cons_succ]
  try simp only [alloc_size]
  generalize (w.alloc (Obj.cells (coc c) 35)).alloc (Obj.cells (unc Co.zero (.slice none 0 0)) 78) = W at a0 a1 hB ⊢
  have hV : w.heap.size + 1 < W.heap.size := a1.lt
  have c0 := a0.cell 39 (.slice c.ka c.kn c.kc) rfl
  rw [hn] at c0
  go_wp2_with fail
  refine (clone_ok L c.ka c.kc hl _ (lS.below hB)).mono ?_
  rintro r w1 ⟨⟨a, k, rfl, hg⟩, hb⟩
  replace a0 := a0.below hb
  replace a1 := a1.below hb
  replace hB := hB.trans (hb.mono hB.size)
  clear hb c0 lS
  replace hg := hg
  have hg0 : Lg Kt.vals 38 64 (w.heap.size + 1 + 1) a k L w1 := by
    rcases hg with h | ⟨g, e, h1, h2⟩
    · exact .inl h
    · exact .inr ⟨g, e, by omega, h2⟩
  clear hg
  go_upto_region 2 with (refine store_one rfl 30 _ _ rfl (off := 39) (.slice a L.length k) a0 rfl rfl rfl rfl sizeSl (by rw [coc_size]; decide) ?_; intro w2 b2 k2)
  try simp only [Act.put]
  rw [Co.s_kept] at b2
  have a2 : Blk w.heap.size (coc (c.kp a L.length k)) 35 w2 := b2
  replace a1 := a1.kp1 k2 (by omega)
  replace hg0 := hg0.kp k2 (by simp; omega)
  replace hB : Below w.heap.size w w2 := hB.trans (k2.below1 (by omega) hB.size)
  clear k2 b2 a0
  obtain ⟨q, hq⟩ : ∃ q, Hid (c.kp a L.length k = q) := ⟨_, rfl⟩
  rw [hq.out] at a2
  go_wp2_with (first | refine load_blk rfl 35 _ rfl a2 rfl Try.underlying35 rfl sizeCo ?_ | (refine build_as rfl 78 #[(0, .tmp 7)] rfl (C := unc q (.slice none 0 0)) ?_ ?_; kernel_rfl) | (refine store_part rfl 78 _ _ rfl (off := 0) (cells := unc q (.slice none 0 0)) a1 rfl rfl sizeUn (Nat.le_refl _) (unc_one _ _ _ _) ?_; intro w3 b3 k3; rw [unc_all] at b3; replace hg0 := hg0.kp k3 (by simp); have hB3 : Below w.heap.size w w3 := hB.trans (k3.below1 (by omega) hB.size)))
  exact bodyPost_ret (w := w3) (v := .agg (unc q (.slice none 0 0))) (ret_one rfl rfl b3 Try.underlying78 rfl sizeUn) rfl ⟨⟨a, k, by rw [hq.out], by
    rcases hg0 with h | ⟨g, e, h1, h2⟩
    · exact .inl h
    · exact .inr ⟨g, e, by omega, h2⟩⟩, hB3⟩

def Added (P : Nat) (c : Co) (Hs : List Hp) (h : Hp) (ta : Option Addr) (w w' : World) : Prop :=
  ∃ ta' tk', Blk P (unc c (.slice ta' (Hs ++ [h]).length tk')) 78 w' ∧ Lg Hp.vals 50 66 (P + 1) ta' tk' (Hs ++ [h]) w' ∧ Kp (P :: blkOf ta) w w' ∧ ∀ A ∈ blkOf ta', A ∈ blkOf ta ∨ w.heap.size ≤ A
set_option maxHeartbeats 2000000 in
theorem tell_ok (P : Nat) (c : Co) (ta : Option Addr) (tk : Nat) (Hs : List Hp) (x : Kt) (hl : (Hs.length + 1) * 408 ≤ 140737488355328) (w : World) (b0 : Blk P (unc c (.slice ta Hs.length tk)) 78 w) (hG0 : Lg Hp.vals 50 66 (P + 1) ta tk Hs w) :
    Calls Try.prog 71 #[.pointer (some ⟨P, 0, none⟩), .agg x.arr] w fun e w' => e = .returned (.tuple #[]) ∧ Added P c Hs (takeH x) ta w w' := by
  obtain ⟨iI, zI, hI, hz0, hsz, hby, hzs⟩ := infoHp
  have hP := b0.lt
  have a1 := blk_new w x.arr 64
  have hb := below_box w (.cells x.arr 64)
  obtain ⟨n, hn⟩ : ∃ n, Hs.length = n := ⟨_, rfl⟩
  rw [hn] at b0 hl
  go_enter Try.func71, Try.ntmps71
  go_upto_region 1 with fail
  generalize w.alloc (Obj.cells x.arr 64) = W at a1 hb ⊢
  have bP := (b0.below hb).drew
  have hG := (hG0.below hb).below (Below.refl _ _).drew
  have kP : Kp (P :: blkOf ta) w W.drew := (Kp.of_below hb).trans (Kp.drew _ _)
  clear b0 hb
  refine wp_region_held_drew (S := fun w' => Blk w.heap.size x.arr 64 w') (by kernel_rfl) a1.drew (fun hHeld => ?_)
  refine tkH 0 (v := ?v1) rfl (by kernel_rfl) (fun _ _ _ h => h) (Or.inl ⟨by rfl, ?hy1⟩) hHeld ?rest1
  case hy1 => (intro w hSw; clear hSw; go_simp; try with_reducible rfl)
  try simp only [List.getElem_toArray, List.getElem_cons_succ, List.getElem_cons_zero, Act.put, List.setIfInBounds_toArray, List.set_cons_succ, List.set_cons_zero]
  refine tkH 1 (v := ?v2) rfl (by kernel_rfl) (fun _ _ _ h => h) (Or.inl ⟨by rfl, ?hy2⟩) hHeld ?rest2
  case hy2 => (intro w hSw; clear hSw; go_simp; try with_reducible rfl)
  try simp only [List.getElem_toArray, List.getElem_cons_succ, List.getElem_cons_zero, Act.put, List.setIfInBounds_toArray, List.set_cons_succ, List.set_cons_zero]
  refine tkH 2 (v := ?v3) rfl (by kernel_rfl) (fun _ _ _ h => h) (Or.inl ⟨by rfl, ?hy3⟩) hHeld ?rest3
  case hy3 => (intro w hSw; clear hSw; go_simp; try with_reducible rfl)
  try simp only [List.getElem_toArray, List.getElem_cons_succ, List.getElem_cons_zero, Act.put, List.setIfInBounds_toArray, List.set_cons_succ, List.set_cons_zero]
  refine tkH 3 (v := ?v4) rfl (by kernel_rfl) (fun _ _ _ h => h) (Or.inl ⟨by rfl, ?hy4⟩) hHeld ?rest4
  case hy4 => (intro w hSw; clear hSw; go_simp; try with_reducible rfl)
  try simp only [List.getElem_toArray, List.getElem_cons_succ, List.getElem_cons_zero, Act.put, List.setIfInBounds_toArray, List.set_cons_succ, List.set_cons_zero]
  refine' tkH 5 (v := _) rfl (by kernel_rfl) (fun _ _ _ h => h) (yieldsIf_load_mid (by rfl) _ _ rfl w.heap.size 0 rfl x.vals _ ?hS5 Try.underlying64 rfl sizeKt) hHeld ?rest5
  case hS5 => exact fun w h => h.whole
  try simp only [List.getElem_toArray, List.getElem_cons_succ, List.getElem_cons_zero, Act.put, List.setIfInBounds_toArray, List.set_cons_succ, List.set_cons_zero]
  refine tkH 6 (v := .agg (takeH x).arr) rfl (by kernel_rfl) (fun _ _ _ h => h) (yields_build (by rfl) 66 #[(1, .tmp 9)] rfl (by kernel_rfl)) hHeld ?rest6
  try simp only [List.getElem_toArray, List.getElem_cons_succ, List.getElem_cons_zero, Act.put, List.setIfInBounds_toArray, List.set_cons_succ, List.set_cons_zero]
  refine wpAnyH_ready (rs := [4, 7]) (by kernel_rfl) (by simp) ?_
  refine AllReadyH.cons rfl (fun K hK => ?_) (AllReadyH.cons rfl (fun K hK => ?_) (AllReadyH.nil))
  · rw [if_pos (by rfl)]
    refine wp_load_cell 44 _ rfl (.slice ta n tk) rfl (bP.cell 189 _ rfl) Try.underlying44 rfl ?_
    refine hK.out _ _ hHeld (fun hHeld => ?_)
    clear hK K 
    try simp only [List.getElem_toArray, List.getElem_cons_succ, List.getElem_cons_zero, Act.put, List.setIfInBounds_toArray, List.set_cons_succ, List.set_cons_zero]
    refine wpAnyH_ready (rs := [7]) (by kernel_rfl) (by simp) ?_
    refine AllReadyH.cons rfl (fun K hK => ?_) (AllReadyH.nil)
    rw [if_pos (by rfl)]
    refine wp_hp _ rfl (takeH x) rfl ?_
    intro g u2 hg1 hb hgl
    replace bP := bP.below hb
    replace hG := hG.below hb
    replace kP := kP.trans (Kp.of_below hb)
    refine hK.out _ _ (hHeld.below hb) (fun hHeld => ?_)
    clear hK K hb hgl
    try simp only [List.getElem_toArray, List.getElem_cons_succ, List.getElem_cons_zero, Act.put, List.setIfInBounds_toArray, List.set_cons_succ, List.set_cons_zero]
    refine wpAnyH_ready (rs := [8]) (by kernel_rfl) (by simp) ?_
    refine AllReadyH.cons rfl (fun K hK => ?_) (AllReadyH.nil)
    rw [if_pos (by rfl)]
    have hx := (li_one hg1).src (P := Try.prog) Hp.vals_length Hp.vals_one Try.underlying44 1
    refine wp_append_ln Hp.vals_length _ _ rfl Try.underlying44 hI hz0 hsz hby hzs hG (Nat.succ_le_of_lt bP.lt) hn rfl (M := [(takeH x)]) (by simp) hx rfl (by simp; omega) (by simp [maxLen]; omega) ?_
    intro ta' tk' u3 hG' hk' hA'
    replace bP := bP.kp hk' (fun hm => by have := hG.in _ hm; omega)
    have kP' := kP.trans (hk'.mono (fun i hi => by simp [hi]))
    refine hK.out _ _ (hHeld.kp hk' (fun hm => by have := hG0.in _ hm; omega)) (fun hHeld => ?_)
    clear hK K hG hx hg1
    try simp only [List.getElem_toArray, List.getElem_cons_succ, List.getElem_cons_zero, Act.put, List.setIfInBounds_toArray, List.set_cons_succ, List.set_cons_zero]
    refine tkH 9 (v := ?v7) rfl (by kernel_rfl) (fun _ _ _ h => h) (Or.inl ⟨by rfl, ?hy7⟩) hHeld ?rest7
    case hy7 => (intro w hSw; clear hSw; go_simp; try with_reducible rfl)
    try simp only [List.getElem_toArray, List.getElem_cons_succ, List.getElem_cons_zero, Act.put, List.setIfInBounds_toArray, List.set_cons_succ, List.set_cons_zero]
    refine tkH 10 (v := ?v8) rfl (by kernel_rfl) (fun _ _ _ h => h) (Or.inl ⟨by rfl, ?hy8⟩) hHeld ?rest8
    case hy8 => (intro w hSw; clear hSw; go_simp; try with_reducible rfl)
    try simp only [List.getElem_toArray, List.getElem_cons_succ, List.getElem_cons_zero, Act.put, List.setIfInBounds_toArray, List.set_cons_succ, List.set_cons_zero]
    refine wpAnyH_ready (rs := [11]) (by kernel_rfl) (by simp) ?_
    refine AllReadyH.cons rfl (fun K hK => ?_) (AllReadyH.nil)
    rw [if_pos (by rfl)]
    refine wp_store_one 44 _ _ rfl (off := 189) (.slice ta' (n + 1) tk') bP rfl rfl rfl rfl sizeHs (by rw [unc_size]; decide) ?_
    intro u4 hn9 hk9
    rw [unc_told] at hn9
    replace hG' := hG'.kp hk9 (by simp)
    replace kP' := kP'.trans (hk9.mono (fun i hi => by simp at hi; simp [hi]))
    refine hK.out _ _ (hHeld.kp1 hk9 (by omega)) (fun hHeld => ?_)
    clear hK K hk9 bP
    try simp only [List.getElem_toArray, List.getElem_cons_succ, List.getElem_cons_zero, Act.put, List.setIfInBounds_toArray, List.set_cons_succ, List.set_cons_zero]
    refine wpAnyH_done (by kernel_rfl) ?_ _
    go_wp2_with fail
    go_end0
    exact ⟨rfl, ta', tk', by rw [List.length_append, hn]; exact hn9, hG', kP', fun A hA => (hA' A hA).imp id (fun h => Nat.le_trans kP.size h)⟩
  · rw [if_pos (by rfl)]
    refine wp_hp _ rfl (takeH x) rfl ?_
    intro g u5 hg1 hb hgl
    replace bP := bP.below hb
    replace hG := hG.below hb
    replace kP := kP.trans (Kp.of_below hb)
    refine hK.out _ _ (hHeld.below hb) (fun hHeld => ?_)
    clear hK K hb hgl
    try simp only [List.getElem_toArray, List.getElem_cons_succ, List.getElem_cons_zero, Act.put, List.setIfInBounds_toArray, List.set_cons_succ, List.set_cons_zero]
    refine wpAnyH_ready (rs := [4]) (by kernel_rfl) (by simp) ?_
    refine AllReadyH.cons rfl (fun K hK => ?_) (AllReadyH.nil)
    rw [if_pos (by rfl)]
    refine wp_load_cell 44 _ rfl (.slice ta n tk) rfl (bP.cell 189 _ rfl) Try.underlying44 rfl ?_
    refine hK.out _ _ hHeld (fun hHeld => ?_)
    clear hK K 
    try simp only [List.getElem_toArray, List.getElem_cons_succ, List.getElem_cons_zero, Act.put, List.setIfInBounds_toArray, List.set_cons_succ, List.set_cons_zero]
    refine wpAnyH_ready (rs := [8]) (by kernel_rfl) (by simp) ?_
    refine AllReadyH.cons rfl (fun K hK => ?_) (AllReadyH.nil)
    rw [if_pos (by rfl)]
    have hx := (li_one hg1).src (P := Try.prog) Hp.vals_length Hp.vals_one Try.underlying44 1
    refine wp_append_ln Hp.vals_length _ _ rfl Try.underlying44 hI hz0 hsz hby hzs hG (Nat.succ_le_of_lt bP.lt) hn rfl (M := [(takeH x)]) (by simp) hx rfl (by simp; omega) (by simp [maxLen]; omega) ?_
    intro ta' tk' u7 hG' hk' hA'
    replace bP := bP.kp hk' (fun hm => by have := hG.in _ hm; omega)
    have kP' := kP.trans (hk'.mono (fun i hi => by simp [hi]))
    refine hK.out _ _ (hHeld.kp hk' (fun hm => by have := hG0.in _ hm; omega)) (fun hHeld => ?_)
    clear hK K hG hx hg1
    try simp only [List.getElem_toArray, List.getElem_cons_succ, List.getElem_cons_zero, Act.put, List.setIfInBounds_toArray, List.set_cons_succ, List.set_cons_zero]
    refine tkH 9 (v := ?v9) rfl (by kernel_rfl) (fun _ _ _ h => h) (Or.inl ⟨by rfl, ?hy9⟩) hHeld ?rest9
    case hy9 => (intro w hSw; clear hSw; go_simp; try with_reducible rfl)
    try simp only [List.getElem_toArray, List.getElem_cons_succ, List.getElem_cons_zero, Act.put, List.setIfInBounds_toArray, List.set_cons_succ, List.set_cons_zero]
    refine tkH 10 (v := ?v10) rfl (by kernel_rfl) (fun _ _ _ h => h) (Or.inl ⟨by rfl, ?hy10⟩) hHeld ?rest10
    case hy10 => (intro w hSw; clear hSw; go_simp; try with_reducible rfl)
    try simp only [List.getElem_toArray, List.getElem_cons_succ, List.getElem_cons_zero, Act.put, List.setIfInBounds_toArray, List.set_cons_succ, List.set_cons_zero]
    refine wpAnyH_ready (rs := [11]) (by kernel_rfl) (by simp) ?_
    refine AllReadyH.cons rfl (fun K hK => ?_) (AllReadyH.nil)
    rw [if_pos (by rfl)]
    refine wp_store_one 44 _ _ rfl (off := 189) (.slice ta' (n + 1) tk') bP rfl rfl rfl rfl sizeHs (by rw [unc_size]; decide) ?_
    intro u8 hn9 hk9
    rw [unc_told] at hn9
    replace hG' := hG'.kp hk9 (by simp)
    replace kP' := kP'.trans (hk9.mono (fun i hi => by simp at hi; simp [hi]))
    refine hK.out _ _ (hHeld.kp1 hk9 (by omega)) (fun hHeld => ?_)
    clear hK K hk9 bP
    try simp only [List.getElem_toArray, List.getElem_cons_succ, List.getElem_cons_zero, Act.put, List.setIfInBounds_toArray, List.set_cons_succ, List.set_cons_zero]
    refine wpAnyH_done (by kernel_rfl) ?_ _
    go_wp2_with fail
    go_end0
    exact ⟨rfl, ta', tk', by rw [List.length_append, hn]; exact hn9, hG', kP', fun A hA => (hA' A hA).imp id (fun h => Nat.le_trans kP.size h)⟩

set_option maxHeartbeats 2000000 in
theorem promise_ok (P : Nat) (c : Co) (v : Value) (x : Idn) (m : Nat → Nat) (w : World) (b0 : Blk P (unc c v) 78 w) :
    Calls Try.prog 50 #[.pointer (some ⟨P, 0, none⟩), .agg x.arr, .agg (mbc m)] w fun e w' => e = .returned (.tuple #[]) ∧ Blk P (unc (promC c x m) v) 78 w' ∧ Kp [P] w w' := by
  have hP := b0.lt
  obtain ⟨a1, a2, hb⟩ := two_blk (T0 := 27) (T1 := 28) (C0 := x.arr) (C1 := mbc m) (w := w) rfl
  go_enter Try.func50, Try.ntmps50
  go_upto_region 1 with fail
  generalize (w.alloc (Obj.cells x.arr 27)).alloc (Obj.cells (mbc m) 28) = W at a1 a2 hb ⊢
  have bP := (b0.below hb).drew
  have kP : Kp [P] w W.drew := (Kp.of_below hb).trans (Kp.drew _ _)
  clear b0 hb
  refine wp_region_held_drew (S := fun w' => Blk w.heap.size x.arr 27 w' ∧ Blk (w.heap.size + 1) (mbc m) 28 w') (by kernel_rfl) ⟨a1.drew, a2.drew⟩ (fun hHeld => ?_)
  refine tkH 0 (v := ?v11) rfl (by kernel_rfl) (fun _ _ _ h => h) (Or.inl ⟨by rfl, ?hy11⟩) hHeld ?rest11
  case hy11 => (intro w hSw; clear hSw; go_simp; try with_reducible rfl)
  try simp only [List.getElem_toArray, List.getElem_cons_succ, List.getElem_cons_zero, Act.put, List.setIfInBounds_toArray, List.set_cons_succ, List.set_cons_zero]
  refine tkH 1 (v := ?v12) rfl (by kernel_rfl) (fun _ _ _ h => h) (Or.inl ⟨by rfl, ?hy12⟩) hHeld ?rest12
  case hy12 => (intro w hSw; clear hSw; go_simp; try with_reducible rfl)
  try simp only [List.getElem_toArray, List.getElem_cons_succ, List.getElem_cons_zero, Act.put, List.setIfInBounds_toArray, List.set_cons_succ, List.set_cons_zero]
  refine' tkH 2 (v := _) rfl (by kernel_rfl) (fun _ _ _ h => h) (yieldsIf_load_mid (by rfl) _ _ rfl w.heap.size 0 rfl x.vals _ ?hS13 Try.underlying27 rfl sizeIdn) hHeld ?rest13
  case hS13 => exact fun w h => h.1.whole
  try simp only [List.getElem_toArray, List.getElem_cons_succ, List.getElem_cons_zero, Act.put, List.setIfInBounds_toArray, List.set_cons_succ, List.set_cons_zero]
  refine' tkH 3 (v := _) rfl (by kernel_rfl) (fun _ _ _ h => h) (yieldsIf_load_mid (by rfl) _ _ rfl (w.heap.size + 1) 0 rfl (row8 m) _ ?hS14 Try.underlying28 rfl sizeMb) hHeld ?rest14
  case hS14 => exact fun w h => h.2.whole
  try simp only [List.getElem_toArray, List.getElem_cons_succ, List.getElem_cons_zero, Act.put, List.setIfInBounds_toArray, List.set_cons_succ, List.set_cons_zero]
  refine tkH 4 (v := ?v15) rfl (by kernel_rfl) (fun _ _ _ h => h) (Or.inl ⟨by rfl, ?hy15⟩) hHeld ?rest15
  case hy15 => (intro w hSw; clear hSw; go_simp; try with_reducible rfl)
  try simp only [List.getElem_toArray, List.getElem_cons_succ, List.getElem_cons_zero, Act.put, List.setIfInBounds_toArray, List.set_cons_succ, List.set_cons_zero]
  refine tkH 5 (v := ?v16) rfl (by kernel_rfl) (fun _ _ _ h => h) (Or.inl ⟨by rfl, ?hy16⟩) hHeld ?rest16
  case hy16 => (intro w hSw; clear hSw; go_simp; try with_reducible rfl)
  try simp only [List.getElem_toArray, List.getElem_cons_succ, List.getElem_cons_zero, Act.put, List.setIfInBounds_toArray, List.set_cons_succ, List.set_cons_zero]
  refine tkH 6 (v := ?v17) rfl (by kernel_rfl) (fun _ _ _ h => h) (Or.inl ⟨by rfl, ?hy17⟩) hHeld ?rest17
  case hy17 => (intro w hSw; clear hSw; go_simp; try with_reducible rfl)
  try simp only [List.getElem_toArray, List.getElem_cons_succ, List.getElem_cons_zero, Act.put, List.setIfInBounds_toArray, List.set_cons_succ, List.set_cons_zero]
  refine wpAnyH_ready (rs := [7]) (by kernel_rfl) (by simp) ?_
  refine AllReadyH.cons rfl (fun K hK => ?_) (AllReadyH.nil)
  rw [if_pos (by rfl)]
  refine wp_store_part 27 _ _ rfl (off := 40) (cells := x.arr) bP rfl rfl sizeIdn (show 40 + 3 ≤ 190 by decide) x.arr_one ?_
  intro u1 hn9 hk9
  rw [unc_put _ _ _ 40 _ (Co.s_pr c x) (show 40 + 3 ≤ 189 by decide)] at hn9
  replace bP := hn9
  replace kP := kP.trans (hk9.mono (fun i hi => by simp at hi; simp [hi]))
  refine hK.out _ _ ⟨hHeld.1.kp1 hk9 (by omega), hHeld.2.kp1 hk9 (by omega)⟩ (fun hHeld => ?_)
  clear hK K hk9 hn9
  try simp only [List.getElem_toArray, List.getElem_cons_succ, List.getElem_cons_zero, Act.put, List.setIfInBounds_toArray, List.set_cons_succ, List.set_cons_zero]
  refine tkH 8 (v := ?v18) rfl (by kernel_rfl) (fun _ _ _ h => h) (Or.inl ⟨by rfl, ?hy18⟩) hHeld ?rest18
  case hy18 => (intro w hSw; clear hSw; go_simp; try with_reducible rfl)
  try simp only [List.getElem_toArray, List.getElem_cons_succ, List.getElem_cons_zero, Act.put, List.setIfInBounds_toArray, List.set_cons_succ, List.set_cons_zero]
  refine tkH 9 (v := ?v19) rfl (by kernel_rfl) (fun _ _ _ h => h) (Or.inl ⟨by rfl, ?hy19⟩) hHeld ?rest19
  case hy19 => (intro w hSw; clear hSw; go_simp; try with_reducible rfl)
  try simp only [List.getElem_toArray, List.getElem_cons_succ, List.getElem_cons_zero, Act.put, List.setIfInBounds_toArray, List.set_cons_succ, List.set_cons_zero]
  refine tkH 10 (v := ?v20) rfl (by kernel_rfl) (fun _ _ _ h => h) (Or.inl ⟨by rfl, ?hy20⟩) hHeld ?rest20
  case hy20 => (intro w hSw; clear hSw; go_simp; try with_reducible rfl)
  try simp only [List.getElem_toArray, List.getElem_cons_succ, List.getElem_cons_zero, Act.put, List.setIfInBounds_toArray, List.set_cons_succ, List.set_cons_zero]
  refine wpAnyH_ready (rs := [11]) (by kernel_rfl) (by simp) ?_
  refine AllReadyH.cons rfl (fun K hK => ?_) (AllReadyH.nil)
  rw [if_pos (by rfl)]
  refine wp_store_part 28 _ _ rfl (off := 43) (cells := (mbc m)) bP rfl rfl sizeMb (show 43 + 8 ≤ 190 by decide) (mbc_one _) ?_
  intro u2 hn9 hk9
  rw [unc_put _ _ _ 43 _ (Co.s_want _ m) (show 43 + 8 ≤ 189 by decide)] at hn9
  replace bP := hn9
  replace kP := kP.trans (hk9.mono (fun i hi => by simp at hi; simp [hi]))
  refine hK.out _ _ ⟨hHeld.1.kp1 hk9 (by omega), hHeld.2.kp1 hk9 (by omega)⟩ (fun hHeld => ?_)
  clear hK K hk9 hn9
  try simp only [List.getElem_toArray, List.getElem_cons_succ, List.getElem_cons_zero, Act.put, List.setIfInBounds_toArray, List.set_cons_succ, List.set_cons_zero]
  refine wpAnyH_done (by kernel_rfl) ?_ _
  clear hHeld
  go_upto_region 2 with fail
  go_wp2_with (first | refine load_part rfl 29 _ rfl (o := 31) bP rfl (row8 c.count) (un_count _ _) Try.underlying29 rfl sizeCt ?_ | (refine store_part rfl 29 _ _ rfl (off := 51) (cells := (mbc c.count)) bP rfl rfl sizeCt (show 51 + 8 ≤ 190 by decide) (mbc_one _) ?_; intro w7 b7 k7; rw [unc_put _ _ _ 51 _ (Co.s_cut _ c.count) (show 51 + 8 ≤ 189 by decide)] at b7; have kp7 := kP.trans (k7.mono (fun i hi => by simp at hi; simp [hi]))) | (refine store_one rfl 4 _ _ rfl (off := 59) (.bool false) b7 rfl rfl rfl rfl sizeBool (by rw [unc_size]; decide) ?_; intro w8 b8 k8; rw [unc_set _ _ _ 59 _ (Co.s_rdy _ false) (by decide)] at b8; have kp8 := kp7.trans (k8.mono (fun i hi => by simp at hi; simp [hi]))))
  go_end0
  exact ⟨rfl, b8, kp8⟩

end Go.Proofs.Ythgmecgknhphmaa
