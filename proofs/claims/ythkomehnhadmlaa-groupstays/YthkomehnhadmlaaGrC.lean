/-
  slices.Concat of three tables, with: what each call answers.
  Each theorem says its own conditions: lists that memory bears.
-/
import Derived.Test.YthkomehnhadmlaaGrB
import Derived.Test.YthkomehnhadmlaaGrN
import Derived.Lib.AppendZerosOnto
namespace Go.Proofs.Ythkomehnhadmlaa
set_option maxRecDepth 10000
set_option linter.unusedSimpArgs false
open Go.RowKit Go.Sort
set_option linter.unusedVariables false
set_option linter.unusedSimpArgs false

set_option maxHeartbeats 1000000 in
theorem growM_ok (n : Nat) (hn : n * 24 ≤ 140737488355328) (w : World) : Calls Try.prog 42 #[.slice none 0 0, .int .i64 (n : Int)] w fun e w' => MadeMr [] w.heap.size e w' ∧ Below w.heap.size w w' := by
  obtain ⟨iI, zI, hI, hz0, hsz, hby, hzs⟩ := infoMr
  rcases Nat.eq_zero_or_pos n with rfl | h0
  · have HM : MadeMr [] w.heap.size (.returned (.slice none 0 0)) w := ⟨none, 0, rfl, Lg.none _ _ _⟩
    go_enter Try.func42, Try.ntmps42
    go_wp2_with fail
    go_ret
    exact ⟨HM, Below.refl _ _⟩
  · have hr := Go.Lib.run_append_nil_zeros (P := Try.prog) w 22 3 22 35 iI zI .i64 .i64 Try.underlying22 Try.underlying3 hI hz0 n h0 (by omega) (by omega) (by rw [hby]; omega)
    have hge := grownCap_ge w n 0 35
    have hle := grownCap_le_maxLen w n 0 35 (by simp only [maxLen]; omega)
    obtain ⟨cap, hcap⟩ : ∃ cap, grownCap w n 0 35 = cap := ⟨_, rfl⟩
    rw [hcap] at hr hge hle
    have hB : Below w.heap.size w (w.drew.alloc (.cells (Builtin.zeroCells zI.cells n ++ Builtin.zeroCells zI.cells (cap - n)) 35)) := ((Below.refl _ _).drew).alloc (Nat.le_refl _) _
    have HO : Ow Mr.vals 3 35 w.heap.size cap [] (w.drew.alloc (.cells (Builtin.zeroCells zI.cells n ++ Builtin.zeroCells zI.cells (cap - n)) 35)) := by
      refine ⟨_, heap_alloc_new w.drew _, Nat.zero_le _, hle, ?_, by simp [flat]⟩
      simp only [Array.size_append, size_zeroCells, hzs]
      omega
    obtain ⟨W, hW⟩ : ∃ W, w.drew.alloc (.cells (Builtin.zeroCells zI.cells n ++ Builtin.zeroCells zI.cells (cap - n)) 35) = W := ⟨_, rfl⟩
    rw [hW] at hr hB HO
    have HM : MadeMr [] w.heap.size (.returned (.slice (some ⟨w.heap.size, 0, none⟩) 0 cap)) W := ⟨_, _, rfl, Lg.of HO (Nat.le_refl _)⟩
    have n0 : decide ((n : Int) < 0) = false := by simp
    have n1 : decide (0 < (n : Int)) = true := by simp; omega
    have n2 : decide ((n : Int) > 0) = true := by simp; omega
    have c0 : (0 : Int) ≤ (cap : Int) := by omega
    clear hW hcap HO
    go_enter Try.func42, Try.ntmps42
    go_wp2_with (at_builtin; refine Lib.wpList_append_run _ rfl _ _ _ _ rfl _ _ rfl rfl _ _ hr ?_)
    go_ret
    exact ⟨HM, hB⟩

def upM (L M N : List Mr) : Nat → List Mr
  | 0 => []
  | 1 => L
  | 2 => L ++ M
  | _ => L ++ M ++ N

set_option maxHeartbeats 4000000 in
theorem concat3_ok (L M N : List Mr) (la ma na : Option Addr) (lc mc nc G : Nat) (lz : (L.length + M.length + N.length) * 24 ≤ 140737488355328) (w : World) (hL : Li Mr.vals 0 la L w) (hM : Li Mr.vals 0 ma M w) (hN : Li Mr.vals 0 na N w) (hG : Blk G #[.slice la L.length lc, .slice ma M.length mc, .slice na N.length nc] 22 w) :
    Calls Try.prog 38 #[.slice (some ⟨G, 0, none⟩) 3 3] w fun e w' => MadeMr (L ++ M ++ N) w.heap.size e w' ∧ Below w.heap.size w w' := by
  obtain ⟨iI, zI, hI, hz0, hsz, hby, hzs⟩ := infoMr
  obtain ⟨l0, h0n⟩ : ∃ n, Hid (L.length = n) := ⟨_, rfl⟩
  obtain ⟨l1, h1n⟩ : ∃ n, Hid (M.length = n) := ⟨_, rfl⟩
  obtain ⟨l2, h2n⟩ : ∃ n, Hid (N.length = n) := ⟨_, rfl⟩
  rw [h0n.out, h1n.out, h2n.out] at lz hG
  have e0 : w.cell? ⟨G, 0, none⟩ = some (.slice la l0 lc) := hG.cell 0 _ rfl
  have e1 : w.cell? ⟨G, 1, none⟩ = some (.slice ma l1 mc) := hG.cell 1 _ rfl
  have e2 : w.cell? ⟨G, 2, none⟩ = some (.slice na l2 nc) := hG.cell 2 _ rfl
  have gl := hG.lt
  have n0 : (0 : Int) ≤ (l0 : Int) := by omega
  have n1 : (0 : Int) ≤ (l0 : Int) + (l1 : Int) := by omega
  have n2 : (0 : Int) ≤ (l0 : Int) + (l1 : Int) + (l2 : Int) := by omega
  go_enter Try.func38, Try.ntmps38
  go_wp2_with fail
  go_loopw [3, 11] (fun sz iv wr => ∃ j s : Nat, j ≤ 3 ∧ iv = .int .i64 j ∧ sz = .int .i64 s ∧ w = wr ∧ (j = 0 ∧ s = 0 ∨ j = 1 ∧ l0 = s ∨ j = 2 ∧ l0 + l1 = s ∨ j = 3 ∧ l0 + l1 + l2 = s)) (fun _ iv _ => 3 - (intOf iv).toNat)
  case atStart => exact ⟨0, 0, by omega, rfl, rfl, rfl, .inl ⟨rfl, rfl⟩⟩
  case round =>
    obtain ⟨j, s, hj, rfl, rfl, rfl, h | h | h | h⟩ := hrel
    · obtain ⟨rfl, rfl⟩ := h
      go_wp2_with fail
      exact ⟨⟨1, l0, by omega, by go_num, by go_num, trivial, .inr (.inl ⟨rfl, rfl⟩)⟩, by simp [intOf]⟩
    · obtain ⟨rfl, rfl⟩ := h
      go_wp2_with fail
      exact ⟨⟨2, l0 + l1, by omega, by go_num, by go_num, trivial, .inr (.inr (.inl ⟨rfl, rfl⟩))⟩, by simp [intOf]⟩
    · obtain ⟨rfl, rfl⟩ := h
      go_wp2_with fail
      exact ⟨⟨3, l0 + l1 + l2, by omega, by go_num, by go_num, trivial, .inr (.inr (.inr ⟨rfl, rfl⟩))⟩, by simp [intOf]⟩
    · obtain ⟨h2, h3⟩ := h
      have j2 : decide ((j : Int) < 3) = false := by simp; omega
      rw [h3] at lz
      have HS : Hid (l0 + l1 + l2 = s) := h3
      clear h2 h3 n0 n1 n2
      go_wp2_with fail
      refine (growM_ok s lz w).mono ?_
      rintro r w1 ⟨⟨a, c, rfl, h0⟩, hb⟩
      simp only [List.length_nil]
      go_wp2_with fail
      go_loopw [6, 27] (fun sv iv wr => ∃ (j q : Nat) (a : Option Addr) (c : Nat), iv = .int .i64 j ∧ sv = .slice a q c ∧ Lg Mr.vals 3 35 w.heap.size a c (upM L M N j) wr ∧ Below w.heap.size w wr ∧ (j = 0 ∧ q = 0 ∨ j = 1 ∧ l0 = q ∨ j = 2 ∧ l0 + l1 = q ∨ j = 3 ∧ l0 + l1 + l2 = q)) (fun _ iv _ => 3 - (intOf iv).toNat)
      case atStart => exact ⟨0, 0, a, c, rfl, rfl, h0, hb, .inl ⟨rfl, rfl⟩⟩
      case round =>
        clear h0 hb
        obtain ⟨j, q, a, c, rfl, rfl, h0, hb, h⟩ := hrel
        rename World => wr
        have d0 : wr.cell? ⟨G, 0, none⟩ = some (.slice la l0 lc) := (hG.below hb).cell 0 _ rfl
        have d1 : wr.cell? ⟨G, 1, none⟩ = some (.slice ma l1 mc) := (hG.below hb).cell 1 _ rfl
        have d2 : wr.cell? ⟨G, 2, none⟩ = some (.slice na l2 nc) := (hG.below hb).cell 2 _ rfl
        have x0 := (hL.below hb).src (P := Try.prog) Mr.vals_length Mr.vals_one Try.underlying22 lc
        have x1 := (hM.below hb).src (P := Try.prog) Mr.vals_length Mr.vals_one Try.underlying22 mc
        have x2 := (hN.below hb).src (P := Try.prog) Mr.vals_length Mr.vals_one Try.underlying22 nc
        rw [h0n.out] at x0
        rw [h1n.out] at x1
        rw [h2n.out] at x2
        rcases h with h | h | h | h
        · obtain ⟨rfl, rfl⟩ := h
          clear d1 x1 d2 x2
          replace h0 : Lg Mr.vals 3 35 w.heap.size a c [] wr := h0
          go_wp2_with (refine append_any Mr.vals_length rfl _ _ rfl Try.underlying22 hI hz0 hsz hby hzs h0 hb.size (n := 0) (by simp [h0n.out, h1n.out]) rfl (M := L) h0n.out (by rw [h0n.out]; exact x0) rfl (by have := HS.out; omega) (by have := HS.out; simp only [maxLen]; omega) ?_; intro a3 c3 W3 hG3 hK3 _)
          have hb3 : Below w.heap.size wr W3 := hK3.below (fun k hk => (h0.in k hk).1) hb.size
          exact ⟨⟨1, l0, a3, c3, by go_num, by simp, by simpa [upM] using hG3, hb.trans hb3, .inr (.inl ⟨rfl, rfl⟩)⟩, by simp [intOf]⟩
        · obtain ⟨rfl, rfl⟩ := h
          clear d0 x0 d2 x2
          replace h0 : Lg Mr.vals 3 35 w.heap.size a c L wr := h0
          go_wp2_with (refine append_any Mr.vals_length rfl _ _ rfl Try.underlying22 hI hz0 hsz hby hzs h0 hb.size (n := l0) (by simp [h0n.out, h1n.out]) rfl (M := M) h1n.out (by rw [h1n.out]; exact x1) rfl (by have := HS.out; omega) (by have := HS.out; simp only [maxLen]; omega) ?_; intro a3 c3 W3 hG3 hK3 _)
          have hb3 : Below w.heap.size wr W3 := hK3.below (fun k hk => (h0.in k hk).1) hb.size
          exact ⟨⟨2, l0 + l1, a3, c3, by go_num, by simp, by simpa [upM] using hG3, hb.trans hb3, .inr (.inr (.inl ⟨rfl, rfl⟩))⟩, by simp [intOf]⟩
        · obtain ⟨rfl, rfl⟩ := h
          clear d0 x0 d1 x1
          replace h0 : Lg Mr.vals 3 35 w.heap.size a c (L ++ M) wr := h0
          go_wp2_with (refine append_any Mr.vals_length rfl _ _ rfl Try.underlying22 hI hz0 hsz hby hzs h0 hb.size (n := (l0 + l1)) (by simp [h0n.out, h1n.out]) rfl (M := N) h2n.out (by rw [h2n.out]; exact x2) rfl (by have := HS.out; omega) (by have := HS.out; simp only [maxLen]; omega) ?_; intro a3 c3 W3 hG3 hK3 _)
          have hb3 : Below w.heap.size wr W3 := hK3.below (fun k hk => (h0.in k hk).1) hb.size
          exact ⟨⟨3, l0 + l1 + l2, a3, c3, by go_num, by simp, by simpa [upM] using hG3, hb.trans hb3, .inr (.inr (.inr ⟨rfl, rfl⟩))⟩, by simp [intOf]⟩
        · obtain ⟨rfl, rfl⟩ := h
          clear d0 d1 d2 x0 x1 x2
          have HM : MadeMr (L ++ M ++ N) w.heap.size (.returned (.slice a (l0 + l1 + l2) c)) wr := ⟨a, c, by simp only [List.length_append, h0n.out, h1n.out, h2n.out], h0⟩
          clear h0
          go_wp2_with fail
          go_ret
          exact ⟨HM, hb⟩

theorem bsMs3 (a b d : Option Addr) (n c m e p f : Nat) (w : World) : (Instr.buildSlice 65 3 #[(0, .slice a n c), (1, .slice b m e), (2, .slice d p f)]).run Try.prog w = .ok (.slice (some ⟨w.heap.size, 0, none⟩) 3 3) (w.alloc (.cells #[.slice a n c, .slice b m e, .slice d p f] 22)) := by kernel_rfl
theorem wp_ms3 {op : Oper} {a : Act} {w : World} {K : Act → World → Prop} {Q : Exit → Act → World → Prop} (x y z : Operand) (ho : op.op = .buildSlice 65 3 #[(0, x), (1, y), (2, z)]) {xa ya za : Option Addr} {n c m e p f : Nat} (hx : a.eval x = .slice xa n c) (hy : a.eval y = .slice ya m e) (hz : a.eval z = .slice za p f)
    (h : ∀ g W, Blk g #[.slice xa n c, .slice ya m e, .slice za p f] 22 W → Below w.heap.size w W → K (a.put op.dst (.slice (some ⟨g, 0, none⟩) 3 3)) W) : op.wp Try.prog a w K Q := by
  have hk := h _ _ (blk_new w #[.slice xa n c, .slice ya m e, .slice za p f] 22) (below_box w _)
  unfold Oper.wp execOp
  simp only [ho, List.map_toArray, List.map_cons, List.map_nil, hx, hy, hz, Sem.run_bind, Sem.run_pure, bsMs3, Result.andThen_ok]
  exact hk
theorem elemMs : Try.prog.elem 22 = 35 := by kernel_rfl

set_option maxHeartbeats 1000000 in
theorem withQ_ok (x : Mr) (X : Nat) (k : Mr) (w : World) (hX : Blk X x.arr 35 w) : Calls Try.prog 37 #[.agg k.arr, .pointer (some ⟨X, 0, none⟩)] w fun e w' => e = .returned (.bool (!lsM k x)) ∧ Below w.heap.size w w' := by
  have b1 := blk_new w k.arr 35
  have hB : Below w.heap.size w (w.alloc (.cells k.arr 35)) := below_box w _
  have hX1 := hX.below hB
  have pl := gless_ok k x
  generalize lsM k x = t at pl ⊢
  clear hX
  go_enter Try.func37, Try.ntmps37
  go_wp2_with (first | refine load_blk rfl 35 _ rfl b1 rfl Try.underlying35 rfl sizeMr ?_ | refine load_blk rfl 35 _ rfl hX1 rfl Try.underlying35 rfl sizeMr ?_)
  refine (pl _).mono ?_
  rintro r w1 ⟨rfl, hb⟩
  replace hB := below_next hB hb
  clear pl hb b1 hX1
  go_wp2_with fail
  go_ret
  exact ⟨rfl, hB⟩
theorem entWith : Enters 37 := fun args w => by kernel_rfl

set_option maxHeartbeats 4000000 in
theorem with_ok (x : Mr) (L : List Mr) (la : Option Addr) (lc : Nat) (lz : L.length * 24 + 24 ≤ 140737488355328) (hlc : L.length ≤ lc) (hlm : lc ≤ 9223372036854775807) (w : World) (hS : Li Mr.vals 0 la L w) : Calls Try.prog 23 #[.slice la L.length lc, .agg x.arr] w fun e w' => MadeMr (insM x L) w.heap.size e w' ∧ Below w.heap.size w w' := by
  have b1 := blk_new w x.arr 35
  have hB : Below w.heap.size w (w.alloc (.cells x.arr 35)) := below_box w _
  have hmf : ∀ (fn : Fn) (first cap : Array Value) (w : World), (Instr.makeFunc fn first cap).run Try.prog w = .ok (.func fn first cap) w := fun _ _ _ _ => rfl
  have pi := ixm_ok 37 (.pointer (some ⟨w.heap.size, 0, none⟩)) (fun k => !lsM k x) entWith (fun u => Blk w.heap.size x.arr 35 u) (fun u u' h hb => h.below hb) L (fun k u hu => withQ_ok x w.heap.size k u hu) la lc (by omega)
  obtain ⟨n, hn⟩ : ∃ n, Hid (L.length = n) := ⟨_, rfl⟩
  rw [hn.out] at pi lz hlc ⊢
  go_enter Try.func23, Try.ntmps23
  go_upto_region 1 with fail
  try simp only [Act.put]
  generalize w.alloc (Obj.cells x.arr 35) = W at b1 hB ⊢
  go_wp2_with fail
  refine (pi W (hS.below hB) b1).mono ?_
  rintro r w1 ⟨hF, hb⟩
  replace b1 := b1.below hb
  replace hB := below_next hB hb
  have hS1 := hS.below hB
  clear pi hb
  rcases hF with ⟨j, k, rfl, h1, h2, h3⟩ | ⟨rfl, h1⟩
  · have hjn : j < n := by rw [← hn.out]; exact (List.getElem?_eq_some_iff.1 h1).1
    have HI : Hid (insM x L = L.take j ++ [x] ++ L.drop j) := by
      show _ = _
      rw [ins_at x L j k h1 (by simpa using h2) (fun k' hk' => by simpa using h3 k' hk')]
      simp
    have j0 : ¬ (j : Int) < 0 := by omega
    have hjn' : j ≤ n := by omega
    clear h1 h2 h3 hjn
    obtain ⟨q, HQ⟩ : ∃ q, Hid ((insM x L).length = q) := ⟨_, rfl⟩
    have hPL : Hid ((L.take j).length = j) := by show _ = _; rw [List.length_take, hn.out]; omega
    have hPD : Hid ((L.drop j).length = n - j) := by show _ = _; rw [List.length_drop, hn.out]
    have hcz : ((L.take j).length + [x].length + (L.drop j).length) * 24 ≤ 140737488355328 := by rw [hPL.out, hPD.out]; simp only [List.length_cons, List.length_nil]; omega
    have p0 : (0 : Int) ≤ (j : Int) := by omega
    have p1 : (j : Int) ≤ (n : Int) := by omega
    have p2 : (j : Int) ≤ (lc : Int) := by omega
    have hLt := hS1.take Mr.vals_length j
    have hLd := hS1.cut Mr.vals_length lc j (by rw [hn.out]; exact hlc) (by rw [hn.out]; omega)
    go_upto_region 4 with fail
    try simp only [Act.put, List.setIfInBounds_toArray, List.set_cons_zero, List.set_cons_succ]
    replace b1 := b1.drew
    replace hLt := hLt.below (Below.refl _ _).drew
    replace hLd := hLd.below (Below.refl _ _).drew
    replace hB := below_next hB (Below.refl _ _).drew
    generalize hV : w1.drew = V at b1 hLt hLd hB
    have hb0 : Below V.heap.size V w1.drew := hV ▸ Below.refl _ _
    refine wp_region_held_drew (S := fun v => Below V.heap.size V v) (by kernel_rfl) hb0 (fun hHeld => ?_)
    refine tkQ 0 hHeld ?_
    try simp only [yy]
    refine tkQ 1 hHeld ?_
    try simp only [yy]
    refine tkQ 2 hHeld ?_
    try simp only [yy]
    refine' tkH 3 (v := _) rfl (by kernel_rfl) (fun _ _ _ h => h) (yieldsIf_load_mid (by rfl) _ _ rfl w.heap.size 0 rfl x.vals _ ?hS18 Try.underlying35 rfl sizeMr) hHeld ?rest18
    case hS18 => exact fun w h => ((b1.below h).whole)
    try simp only [yy]
    refine tkQ 5 hHeld ?_
    try simp only [yy]
    refine tkQ 6 hHeld ?_
    try simp only [yy]
    refine tkH 7 (v := .slice (cutA la lc j 3) (n - j) (lc - j)) rfl (by kernel_rfl) (fun _ _ _ h => h) (yields_cut (by rfl) _ _ rfl Try.underlying22 elemMs sizeOfMr (show j ≤ n by omega) rfl rfl) hHeld ?_
    try simp only [yy]
    refine rd1 4 (fun K hK => ?_)
    rw [if_pos (by rfl)]
    refine wp_Mr _ rfl x rfl ?_
    intro g1 u1 hl1 hb
    refine hK.out _ _ (below_next hHeld hb) (fun hHeld => ?_)
    clear hK K hb
    try simp only [yy]
    refine rd1 8 (fun K hK => ?_)
    rw [if_pos (by rfl)]
    refine wp_ms3 _ _ _ rfl rfl rfl rfl ?_
    intro g2 u2 hg2 hb
    replace hl1 := hl1.below hb
    refine hK.out _ _ (below_next hHeld hb) (fun hHeld => ?_)
    clear hK K hb
    try simp only [yy]
    replace hg2 : Blk g2 #[.slice la (L.take j).length lc, .slice (some ⟨g1, 0, none⟩) [x].length 1, .slice (cutA la lc j 3) (L.drop j).length (lc - j)] 22 u2 := by rw [hPL.out, hPD.out]; exact hg2
    refine rd1 9 (fun K hK => ?_)
    go_simp
    have pcc := concat3_ok (L.take j) [x] (L.drop j) la (some ⟨g1, 0, none⟩) (cutA la lc j 3) lc 1 (lc - j) g2 hcz _ (hLt.below hHeld) hl1 (hLd.below hHeld) hg2
    unfold MadeMr at pcc
    rw [← HI.out, HQ.out] at pcc
    go_wp2_with (refine pcc.mono ?_; rintro r u3 ⟨⟨a3, c3, rfl, hG3⟩, hb⟩)
    have hB3 := below_next hB hHeld
    replace hG3 := hG3.mono hB3.size
    refine hK.out _ _ (below_next hHeld hb) (fun hHeld => ?_)
    clear hK K hb pcc
    refine tkQ 10 hHeld ?_
    try simp only [yy]
    refine wpAnyH_done (by kernel_rfl) ?_ _
    have HM : MadeMr (insM x L) w.heap.size (.returned (.slice a3 q c3)) _ := ⟨a3, c3, by rw [HQ.out], hG3⟩
    clear hG3
    go_wp2_with fail
    go_ret
    exact ⟨HM, below_next hB hHeld⟩
  · have HI : Hid (insM x L = L.take n ++ [x] ++ L.drop n) := by
      show _ = _
      rw [ins_end x L (fun k' hk' => by simpa using h1 k' hk'), ← hn.out]
      simp
    clear h1
    obtain ⟨q, HQ⟩ : ∃ q, Hid ((insM x L).length = q) := ⟨_, rfl⟩
    have hPL : Hid ((L.take n).length = n) := by show _ = _; rw [List.length_take, hn.out]; omega
    have hPD : Hid ((L.drop n).length = n - n) := by show _ = _; rw [List.length_drop, hn.out]
    have hcz : ((L.take n).length + [x].length + (L.drop n).length) * 24 ≤ 140737488355328 := by rw [hPL.out, hPD.out]; simp only [List.length_cons, List.length_nil]; omega
    have p0 : (0 : Int) ≤ (n : Int) := by omega
    have p1 : (n : Int) ≤ (n : Int) := by omega
    have p2 : (n : Int) ≤ (lc : Int) := by omega
    have hLt := hS1.take Mr.vals_length n
    have hLd := hS1.cut Mr.vals_length lc n (by rw [hn.out]; exact hlc) (by rw [hn.out]; omega)
    go_upto_region 4 with fail
    try simp only [Act.put, List.setIfInBounds_toArray, List.set_cons_zero, List.set_cons_succ]
    replace b1 := b1.drew
    replace hLt := hLt.below (Below.refl _ _).drew
    replace hLd := hLd.below (Below.refl _ _).drew
    replace hB := below_next hB (Below.refl _ _).drew
    generalize hV : w1.drew = V at b1 hLt hLd hB
    have hb0 : Below V.heap.size V w1.drew := hV ▸ Below.refl _ _
    refine wp_region_held_drew (S := fun v => Below V.heap.size V v) (by kernel_rfl) hb0 (fun hHeld => ?_)
    refine tkQ 0 hHeld ?_
    try simp only [yy]
    refine tkQ 1 hHeld ?_
    try simp only [yy]
    refine tkQ 2 hHeld ?_
    try simp only [yy]
    refine' tkH 3 (v := _) rfl (by kernel_rfl) (fun _ _ _ h => h) (yieldsIf_load_mid (by rfl) _ _ rfl w.heap.size 0 rfl x.vals _ ?hS26 Try.underlying35 rfl sizeMr) hHeld ?rest26
    case hS26 => exact fun w h => ((b1.below h).whole)
    try simp only [yy]
    refine tkQ 5 hHeld ?_
    try simp only [yy]
    refine tkQ 6 hHeld ?_
    try simp only [yy]
    refine tkH 7 (v := .slice (cutA la lc n 3) (n - n) (lc - n)) rfl (by kernel_rfl) (fun _ _ _ h => h) (yields_cut (by rfl) _ _ rfl Try.underlying22 elemMs sizeOfMr (show n ≤ n by omega) rfl rfl) hHeld ?_
    try simp only [yy]
    refine rd1 4 (fun K hK => ?_)
    rw [if_pos (by rfl)]
    refine wp_Mr _ rfl x rfl ?_
    intro g1 u1 hl1 hb
    refine hK.out _ _ (below_next hHeld hb) (fun hHeld => ?_)
    clear hK K hb
    try simp only [yy]
    refine rd1 8 (fun K hK => ?_)
    rw [if_pos (by rfl)]
    refine wp_ms3 _ _ _ rfl rfl rfl rfl ?_
    intro g2 u2 hg2 hb
    replace hl1 := hl1.below hb
    refine hK.out _ _ (below_next hHeld hb) (fun hHeld => ?_)
    clear hK K hb
    try simp only [yy]
    replace hg2 : Blk g2 #[.slice la (L.take n).length lc, .slice (some ⟨g1, 0, none⟩) [x].length 1, .slice (cutA la lc n 3) (L.drop n).length (lc - n)] 22 u2 := by rw [hPL.out, hPD.out]; exact hg2
    refine rd1 9 (fun K hK => ?_)
    go_simp
    have pcc := concat3_ok (L.take n) [x] (L.drop n) la (some ⟨g1, 0, none⟩) (cutA la lc n 3) lc 1 (lc - n) g2 hcz _ (hLt.below hHeld) hl1 (hLd.below hHeld) hg2
    unfold MadeMr at pcc
    rw [← HI.out, HQ.out] at pcc
    go_wp2_with (refine pcc.mono ?_; rintro r u3 ⟨⟨a3, c3, rfl, hG3⟩, hb⟩)
    have hB3 := below_next hB hHeld
    replace hG3 := hG3.mono hB3.size
    refine hK.out _ _ (below_next hHeld hb) (fun hHeld => ?_)
    clear hK K hb pcc
    refine tkQ 10 hHeld ?_
    try simp only [yy]
    refine wpAnyH_done (by kernel_rfl) ?_ _
    have HM : MadeMr (insM x L) w.heap.size (.returned (.slice a3 q c3)) _ := ⟨a3, c3, by rw [HQ.out], hG3⟩
    clear hG3
    go_wp2_with fail
    go_ret
    exact ⟨HM, below_next hB hHeld⟩

end Go.Proofs.Ythkomehnhadmlaa
