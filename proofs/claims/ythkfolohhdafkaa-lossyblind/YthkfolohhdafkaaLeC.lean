/-
  Letters that are put, and one that is taken: what Put and Take answer.
  Each theorem says its own conditions: lists that memory bears.
-/
import Derived.Test.YthkfolohhdafkaaLeB
import Derived.Test.YthkfolohhdafkaaLr
namespace Go.Proofs.Ythkfolohhdafkaa
set_option maxRecDepth 10000
set_option linter.unusedSimpArgs false
open Go.RowKit Go.Sort
set_option linter.unusedVariables false
set_option linter.unusedSimpArgs false

theorem bsLs2 (a b : Option Addr) (n c m d : Nat) (w : World) : (Instr.buildSlice 50 2 #[(0, .slice a n c), (1, .slice b m d)]).run Try.prog w = .ok (.slice (some ⟨w.heap.size, 0, none⟩) 2 2) (w.alloc (.cells #[.slice a n c, .slice b m d] 22)) := by kernel_rfl
theorem wp_ls2 {op : Oper} {a : Act} {w : World} {K : Act → World → Prop} {Q : Exit → Act → World → Prop} (x y : Operand) (ho : op.op = .buildSlice 50 2 #[(0, x), (1, y)]) {xa ya : Option Addr} {n c m d : Nat} (hx : a.eval x = .slice xa n c) (hy : a.eval y = .slice ya m d)
    (h : ∀ g W, Blk g #[.slice xa n c, .slice ya m d] 22 W → Below w.heap.size w W → w.heap.size ≤ g → g < W.heap.size → K (a.put op.dst (.slice (some ⟨g, 0, none⟩) 2 2)) W) : op.wp Try.prog a w K Q := by
  have hk := h _ _ (blk_new w #[.slice xa n c, .slice ya m d] 22) (below_box w _) (Nat.le_refl _) (by simp)
  unfold Oper.wp execOp
  simp only [ho, List.map_toArray, List.map_cons, List.map_nil, hx, hy, Sem.run_bind, Sem.run_pure, bsLs2, Result.andThen_ok]
  exact hk
theorem box_ls2 {ops : Array Oper} {rest : List Oper} {op : Oper} {a : Act} {w : World} {Q : Exit → Act → World → Prop} (hgd : op.guard = none) (x y : Operand) (ho : op.op = .buildSlice 50 2 #[(0, x), (1, y)]) {xa ya : Option Addr} {n c m d : Nat} (hx : a.eval x = .slice xa n c) (hy : a.eval y = .slice ya m d)
    (h : ∀ g W, Blk g #[.slice xa n c, .slice ya m d] 22 W → Below w.heap.size w W → w.heap.size ≤ g → g < W.heap.size → wpList Try.prog ops Q rest (a.put op.dst (.slice (some ⟨g, 0, none⟩) 2 2)) W) : wpList Try.prog ops Q (op :: rest) a w :=
  wpList_plain hgd fun _ hK => wp_ls2 x y ho hx hy fun g W h1 h2 h3 h4 => hK _ _ (h g W h1 h2 h3 h4)

theorem below_next {u w w' : World} (h : Below u.heap.size u w) (hb : Below w.heap.size w w') : Below u.heap.size u w' := h.trans (hb.mono h.size)
theorem below_at {b : Nat} {u w w' : World} (h : Below u.heap.size u w) (hk : Kp [b] w w') (hb : u.heap.size ≤ b) : Below u.heap.size u w' := h.trans (hk.below1 hb h.size)

/- 'l[i:]' of any list, in a region that draws. -/
def cutA (ad : Option Addr) (c i k : Nat) : Option Addr := if c = i then ad else ad.map (·.add (i * k))
theorem Li.cut {α : Type} {f : α → List Value} {k : Nat} (hk : ∀ x, (f x).length = k) {B : Nat} {a : Option Addr} {L : List α} {w : World} (h : Li f B a L w) (c i : Nat) (hc : L.length ≤ c) (hi : i ≤ L.length) : Li f B (cutA a c i k) (L.drop i) w := by
  unfold cutA
  by_cases h1 : c = i
  · rw [List.drop_eq_nil_of_le (by omega)]
    exact Li.nil _ _ _
  · rw [if_neg h1]
    rcases h with rfl | ⟨b, o, rfl, hB, hlt, hr⟩
    · exact .inl (by simp)
    · exact .inr ⟨b, o + i * k, by simp [Addr.add_mid], hB, hlt, range_drop hk hr i hi⟩
theorem yields_cut {P : Program} {ops : Array Oper} {S : World → Prop} {op : Oper} {a : Act} (hw : Region.wanted op (yielded ops a.tmps) = true) (x y : Operand) {t T : TypeId} {k : Nat} (ho : op.op = .slice t x (some y) none none)
    (ht : P.underlying t = some (.slice (P.elem t))) (hT : P.elem t = T) (hsz : ∀ w, (sizeOf T).run P w = .ok k w) {ad : Option Addr} {n c i : Nat} (hi : i ≤ n) (hx : a.eval x = .slice ad n c) (hy : a.eval y = .int .i64 (i : Int)) : YieldsIf P ops S op (.slice (cutA ad c i k) (n - i) (c - i)) a :=
  .inl ⟨hw, fun w _ => by
    have hr : (Instr.slice t (.slice ad n c) (some (.int .i64 (i : Int))) none none).run P w = .ok (.slice (cutA ad c i k) (n - i) (c - i)) w := by
      rw [run_slice_l w t ad n c ht .i64 i (by omega) (by omega), hT, hsz w]
      simp [Result.andThen, sliced, cutA]
    unfold execOp
    simp only [ho, Option.map_some, Option.map_none, hx, hy, Sem.run_bind, run_sliceAt_slice _ _ _ _ _ _ ht, hr, Result.andThen_ok, Sem.run_pure]⟩

theorem take_min {α : Type} (L : List α) (k : Nat) : L.take k = L.take (min L.length k) := by
  rcases Nat.le_total L.length k with h | h
  · rw [Nat.min_eq_left h, List.take_of_length_le h, List.take_of_length_le (Nat.le_refl _)]
  · rw [Nat.min_eq_right h]
theorem Li.take {α : Type} {f : α → List Value} {k : Nat} (hk : ∀ x, (f x).length = k) {B : Nat} {a : Option Addr} {L : List α} {w : World} (h : Li f B a L w) (n : Nat) : Li f B a (L.take n) w := by
  rcases h with rfl | ⟨b, o, e, hB, hlt, hr⟩
  · exact .inl (by simp)
  · refine .inr ⟨b, o, e, hB, hlt, fun j v hv => hr j v ?_⟩
    rw [← flat_take hk, List.getElem?_take] at hv
    split at hv
    · exact hv
    · cases hv

set_option maxHeartbeats 1000000 in
theorem lput_ok (L X : List Le) (la xa : Option Addr) (lc xc : Nat) (lz : L.length * 40 ≤ 140737488351232) (xz : X.length * 40 ≤ 140737488351232) (hlc : L.length ≤ lc) (hxc : X.length ≤ xc) (w : World) (hL : Li Le.vals 0 la L w) (hX : Li Le.vals 0 xa X w) :
    Calls Try.prog 16 #[.slice la L.length lc, .slice xa X.length xc] w fun e w' => MadeL (putL L X) w.heap.size e w' ∧ Below w.heap.size w w' := by
  obtain ⟨n, hn⟩ : ∃ n, Hid (L.length = n) := ⟨_, rfl⟩
  obtain ⟨m, hm⟩ : ∃ m, Hid (X.length = m) := ⟨_, rfl⟩
  obtain ⟨p, hp⟩ : ∃ p, Hid (min n 4096 = p) := ⟨_, rfl⟩
  obtain ⟨q, hq⟩ : ∃ q, Hid (min m (4096 - p) = q) := ⟨_, rfl⟩
  have e1 : Hid (putL L X = L.take p ++ X.take q) := by
    show L.take 4096 ++ X.take (4096 - min L.length 4096) = _
    rw [hn.out, hp.out, take_min L 4096, take_min X (4096 - p), hn.out, hm.out, hp.out, hq.out]
  have p0 := hp.out
  have q0 := hq.out
  have i1 : (if (4096 : Int) < (n : Int) then 4096 else (n : Int)) = (p : Int) := by split <;> omega
  have i2 : (if (4096 : Int) - (p : Int) < (m : Int) then 4096 - (p : Int) else (m : Int)) = (q : Int) := by split <;> omega
  have pn : p ≤ n := by omega
  have qm : q ≤ m := by omega
  have p9 : p ≤ 4096 := by omega
  have q9 : q ≤ 4096 := by omega
  rw [hn.out] at lz hlc
  rw [hm.out] at xz hxc
  rw [hn.out, hm.out, e1.out]
  have l1 : (L.take p).length = p := by rw [List.length_take, hn.out]; omega
  have l2 : (X.take q).length = q := by rw [List.length_take, hm.out]; omega
  have hL' := hL.take Le.vals_length p
  have hX' := hX.take Le.vals_length q
  generalize L.take p = L' at l1 hL' ⊢
  generalize X.take q = X' at l2 hX' ⊢
  have H1 : Hid (L'.length = p) := l1
  have H2 : Hid (X'.length = q) := l2
  have pc : (p : Int) ≤ (lc : Int) := by omega
  have qc : (q : Int) ≤ (xc : Int) := by omega
  have pp : (0 : Int) ≤ (p : Int) := by omega
  have qp : (0 : Int) ≤ (q : Int) := by omega
  clear l1 l2 p0 q0 hL hX
  go_enter Try.func16, Try.ntmps16
  go_wp2_with (refine box_ls2 rfl _ _ rfl rfl rfl ?_; intro G W hG hbG _ _)
  rw [← H1.out, ← H2.out] at hG
  refine (concat_ok L' X' la xa lc xc G (by rw [H1.out, H2.out]; omega) W (hL'.below hbG) (hX'.below hbG) hG).mono ?_
  rintro r w1 ⟨⟨a, c, rfl, h0⟩, hb⟩
  go_wp2_with fail
  go_ret
  exact ⟨⟨a, c, by simp, h0.mono hbG.size⟩, hbG.trans (hb.mono hbG.size)⟩

def TookL (f u ix : Int) (L : List Le) (B : Nat) (e : Ending) (w' : World) : Prop := ∃ a c, e = .returned (.tuple #[.slice a (leftL f u ix L).length c, .agg (gotL f u ix L).arr, .bool (isL f u ix L)]) ∧ Lg Le.vals 4 27 B a c (leftL f u ix L) w'

set_option maxHeartbeats 2000000 in
theorem ltake_ok (L : List Le) (la : Option Addr) (lc : Nat) (f u ix : Int) (hix : -9223372036854775808 ≤ ix ∧ ix ≤ 9223372036854775807) (lz : L.length * 40 ≤ 140737488351232) (hlc : L.length ≤ lc) (hcm : lc ≤ 9223372036854775807) (w : World) (hL : Li Le.vals 0 la L w) :
    Calls Try.prog 8 #[.slice la L.length lc, .int .i64 f, .int .i64 u, .int .i64 ix] w fun e w' => TookL f u ix L w.heap.size e w' ∧ Below w.heap.size w w' := by
  obtain ⟨n, hn⟩ : ∃ n, Hid (L.length = n) := ⟨_, rfl⟩
  have a9 := blk_new w Le.zero.arr 27
  have hB := below_box w (.cells Le.zero.arr 27)
  cases hp : pickL f u ix L with
  | none =>
    have pF := find_ok L la lc f u ix hix lz
    have pC := lclone_ok L la lc (by omega)
    have HT : ∀ a c w', Lg Le.vals 4 27 w.heap.size a c L w' → TookL f u ix L w.heap.size (.returned (.tuple #[.slice a n c, .agg Le.zero.arr, .bool false])) w' := by
      intro a c w' h
      refine ⟨a, c, ?_, ?_⟩
      · simp only [leftL, gotL, isL, hp, hn.out]; rfl
      · simpa only [leftL, hp] using h
    simp only [isL, hp] at pF
    rw [hn.out] at pF pC ⊢
    clear hp
    go_enter Try.func8, Try.ntmps8
    go_upto_region 1 with (go_big_may; refine alloc_zero zeroLe rfl rfl ?_)
    try simp only [Act.put]
    generalize w.alloc (Obj.cells Le.zero.arr 27) = W at a9 hB ⊢
    go_wp2_with fail
    refine (pF W (hL.below hB)).mono ?_
    rintro r w1 ⟨rfl, hb⟩
    replace a9 := a9.below hb
    replace hB := below_next hB hb
    clear hb pF
    go_wp2_with fail
    refine (pC w1 (hL.below hB)).mono ?_
    rintro r w2 ⟨⟨a, c, rfl, h0⟩, hb⟩
    replace a9 := a9.below hb
    replace h0 := h0.mono hB.size
    replace hB := below_next hB hb
    rw [hn.out]
    clear hb pC
    go_wp2_with (first | refine build_zero builtLe rfl rfl ?_ | refine store_same rfl 27 _ _ rfl a9 rfl rfl sizeLe Le.zero.arr_one ?_)
    refine bodyPost_ret (w := w2) (v := .tuple #[.slice a n c, .agg Le.zero.arr, .bool false]) (ret_tct rfl rfl a9 Try.underlying27 rfl sizeLe rfl rfl) rfl ?_
    exact ⟨HT a c w2 h0, hB⟩
  | some p =>
    have pF := find_ok L la lc f u ix hix lz
    have hlt := pickL_lt hp
    obtain ⟨x, hx, _⟩ := pickL_some hp
    have HT : ∀ a c w', Lg Le.vals 4 27 w.heap.size a c (L.take p ++ L.drop (p + 1)) w' → TookL f u ix L w.heap.size (.returned (.tuple #[.slice a (L.take p ++ L.drop (p + 1)).length c, .agg x.arr, .bool true])) w' := by
      intro a c w' h
      refine ⟨a, c, ?_, ?_⟩
      · simp only [leftL, gotL, isL, hp, List.getD, hx]; rfl
      · simpa only [leftL, hp] using h
    simp only [isL, hp] at pF
    have hLt := hL.take Le.vals_length p
    have hLd := hL.cut Le.vals_length lc (p + 1) hlc (by omega)
    have l1 : Hid ((L.take p).length = p) := by show _ = _; rw [List.length_take]; omega
    have l2 : Hid ((L.drop (p + 1)).length = n - (p + 1)) := by show _ = _; rw [List.length_drop, hn.out]
    have hcz : ((L.take p).length + (L.drop (p + 1)).length) * 40 ≤ 140737488351232 := by rw [l1.out, l2.out, ← hn.out]; omega
    rw [hn.out] at pF lz hlc hlt ⊢
    have p0 : (0 : Int) ≤ (p : Int) := by omega
    have p1 : (p : Int) < (n : Int) := by omega
    have p2 : (p : Int) ≤ (lc : Int) := by omega
    have hp1 : p + 1 ≤ n := by omega
    have p3 : IntKind.i64.wrap ((p : Int) + 1) = ((p + 1 : Nat) : Int) := by rw [IntKind.wrap_i64]; omega
    obtain ⟨b, o, rfl, _, _, _⟩ := hL.at Le.vals_length p x hx
    clear hp
    go_enter Try.func8, Try.ntmps8
    go_upto_region 1 with (go_big_may; refine alloc_zero zeroLe rfl rfl ?_)
    try simp only [Act.put]
    generalize w.alloc (Obj.cells Le.zero.arr 27) = W9 at a9 hB ⊢
    go_wp2_with fail
    refine (pF W9 (hL.below hB)).mono ?_
    rintro r w1 ⟨rfl, hb⟩
    replace a9 := a9.below hb
    replace hB := below_next hB hb
    clear hb pF
    simp only [Option.getD_some, Option.isSome_some]
    go_upto_region 4 with fail
    try simp only [Act.put]
    refine wp_region_held_drew (S := fun v => Below w.heap.size w v) (by kernel_rfl) (below_next hB (Below.refl _ _).drew) (fun hHeld => ?_)
    replace a9 := a9.drew
    replace hB := below_next hB (Below.refl _ _).drew
    refine tkH 0 (v := ?v1) rfl (by kernel_rfl) (fun _ _ _ h => h) (Or.inl ⟨by rfl, ?hy1⟩) hHeld ?rest1
    case hy1 => (intro w hSw; clear hSw; go_simp; try with_reducible rfl)
    try simp only [yA, yB, yC, Act.put, yD, yE, yF]
    refine tkH 1 (v := ?v2) rfl (by kernel_rfl) (fun _ _ _ h => h) (Or.inl ⟨by rfl, ?hy2⟩) hHeld ?rest2
    case hy2 => (intro w hSw; clear hSw; go_simp; try with_reducible rfl)
    try simp only [yA, yB, yC, Act.put, yD, yE, yF]
    refine tkH 2 (v := ?v3) rfl (by kernel_rfl) (fun _ _ _ h => h) (Or.inl ⟨by rfl, ?hy3⟩) hHeld ?rest3
    case hy3 => (intro w hSw; clear hSw; go_simp; try with_reducible rfl)
    try simp only [yA, yB, yC, Act.put, yD, yE, yF]
    refine tkH 3 (v := ?v4) rfl (by kernel_rfl) (fun _ _ _ h => h) (Or.inl ⟨by rfl, ?hy4⟩) hHeld ?rest4
    case hy4 => (intro w hSw; clear hSw; go_simp; try with_reducible rfl)
    try simp only [yA, yB, yC, Act.put, yD, yE, yF]
    refine tkH 4 (v := ?v5) rfl (by kernel_rfl) (fun _ _ _ h => h) (Or.inl ⟨by rfl, ?hy5⟩) hHeld ?rest5
    case hy5 => (intro w hSw; clear hSw; go_simp; try with_reducible rfl)
    try simp only [yA, yB, yC, Act.put, yD, yE, yF]
    refine tkH 5 (v := ?v6) rfl (by kernel_rfl) (fun _ _ _ h => h) (Or.inl ⟨by rfl, ?hy6⟩) hHeld ?rest6
    case hy6 => (intro w hSw; clear hSw; go_simp; try with_reducible rfl)
    try simp only [yA, yB, yC, Act.put, yD, yE, yF]
    refine wpAnyH_take (i := 6) (v := .slice (cutA (some ⟨b, o, none⟩) lc (p + 1) 4) (n - (p + 1)) (lc - (p + 1))) rfl (by kernel_rfl) (by kernel_rfl) (by kernel_rfl) (fun _ _ _ h => h) (yields_cut (by rfl) _ _ rfl Try.underlying22 rfl (fun w => by kernel_rfl) hp1 rfl rfl) hHeld ?rest7
    try simp only [yA, yB, yC, Act.put, yD, yE, yF]
    refine tkH 9 (v := ?v8) rfl (by kernel_rfl) (fun _ _ _ h => h) (Or.inl ⟨by rfl, ?hy8⟩) hHeld ?rest8
    case hy8 => (intro w hSw; clear hSw; go_simp; try with_reducible rfl)
    try simp only [yA, yB, yC, Act.put, yD, yE, yF]
    refine tkH 10 (v := ?v9) rfl (by kernel_rfl) (fun _ _ _ h => h) (Or.inl ⟨by rfl, ?hy9⟩) hHeld ?rest9
    case hy9 => (intro w hSw; clear hSw; go_simp; try with_reducible rfl)
    try simp only [yA, yB, yC, Act.put, yD, yE, yF]
    refine tkH 11 (v := ?v10) rfl (by kernel_rfl) (fun _ _ _ h => h) (Or.inl ⟨by rfl, ?hy10⟩) hHeld ?rest10
    case hy10 => (intro w hSw; clear hSw; go_simp; try with_reducible rfl)
    try simp only [yA, yB, yC, Act.put, yD, yE, yF]
    refine' tkH 12 (v := _) rfl (by kernel_rfl) (fun _ _ _ h => h) (yieldsIf_load_mid (by rfl) _ _ rfl b (o + p * 4) rfl x.vals _ ?hS11 Try.underlying27 rfl sizeLe) hHeld ?rest11
    case hS11 => exact fun w h => ((hL.below h).rng Le.vals_length p x hx)
    try simp only [yA, yB, yC, Act.put, yD, yE, yF]
    refine wpAnyH_ready (rs := [7]) (by kernel_rfl) (by simp) ?_
    refine AllReadyH.cons rfl (fun K hK => ?_) (AllReadyH.nil)
    rw [if_pos (by rfl)]
    refine wp_ls2 _ _ rfl rfl rfl ?_
    intro G W hG hbG _ _
    replace a9 := a9.below hbG
    replace hB := below_next hB hbG
    refine hK.out _ _ (below_next hHeld hbG) (fun hHeld => ?_)
    clear hK K hbG
    try simp only [yA, yB, yC, Act.put, yD, yE, yF]
    refine wpAnyH_ready (rs := [8]) (by kernel_rfl) (by simp) ?_
    refine AllReadyH.cons rfl (fun K hK => ?_) (AllReadyH.nil)
    go_simp
    go_wp2_with (refine (concat_ok (L.take p) (L.drop (p + 1)) (some ⟨b, o, none⟩) (cutA (some ⟨b, o, none⟩) lc (p + 1) 4) lc (lc - (p + 1)) G hcz W (hLt.below hHeld) (hLd.below hHeld) (by rw [l1.out, l2.out]; exact hG)).mono ?_; rintro r u8 ⟨⟨a, c, rfl, h0⟩, hb⟩)
    have hoff : w.heap.size ∉ blkOf a := fun hm => by
      have h1 := (h0.in _ hm).1
      have h2 := a9.lt
      omega
    replace a9 := a9.below hb
    replace hB := below_next hB hb
    replace h0 := h0.mono hHeld.size
    refine hK.out _ _ (below_next hHeld hb) (fun hHeld => ?_)
    clear hK K hb
    refine tkH 13 (v := ?v12) rfl (by kernel_rfl) (fun _ _ _ h => h) (Or.inl ⟨by rfl, ?hy12⟩) hHeld ?rest12
    case hy12 => (intro w hSw; clear hSw; go_simp; try with_reducible rfl)
    try simp only [yA, yB, yC, Act.put, yD, yE, yF]
    refine wpAnyH_ready (rs := [14]) (by kernel_rfl) (by simp) ?_
    refine AllReadyH.cons rfl (fun K hK => ?_) (AllReadyH.nil)
    rw [if_pos (by rfl)]
    refine wp_store_all 27 _ _ rfl (cells := x.arr) a9 rfl rfl sizeLe rfl x.arr_one ?_
    intro u9 hn9 hk
    replace h0 := h0.away hk hoff
    replace hB := below_at hB hk (Nat.le_refl _)
    refine hK.out _ _ (below_at hHeld hk (Nat.le_refl _)) (fun hHeld => ?_)
    clear hK K hk
    try simp only [yA, yB, yC, Act.put, yD, yE, yF]
    refine tkH 15 (v := ?v99) rfl (by kernel_rfl) (fun _ _ _ h => h) (Or.inl ⟨by rfl, ?hy99⟩) hHeld ?rest99
    case hy99 => (intro w hSw; clear hSw; go_simp; try with_reducible rfl)
    try simp only [yA, yB, yC, Act.put, yD, yE, yF]
    refine wpAnyH_done (by kernel_rfl) ?_ _
    go_wp2_with fail
    refine bodyPost_ret (w := u9) (v := .tuple #[.slice a (L.take p ++ L.drop (p + 1)).length c, .agg x.arr, .bool true]) (ret_tct rfl rfl hn9 Try.underlying27 rfl sizeLe (by simp) rfl) rfl ?_
    exact ⟨HT a c u9 h0, hB⟩

end Go.Proofs.Ythkfolohhdafkaa
