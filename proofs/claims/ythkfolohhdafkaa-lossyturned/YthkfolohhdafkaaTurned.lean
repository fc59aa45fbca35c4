/-
  Of a letter that is turned at most four bytes beside one another are other ones, and it has as many as ahead; turned again it stays; no other letter is touched: the law LossyTurned returns true for every input.
  No condition beyond the form's own.
-/
import Derived.Test.YthkfolohhdafkaaRows
import Derived.Test.YthkfolohhdafkaaLeF
import Derived.Test.YthkfolohhdafkaaLeQ
import Derived.WalkKit
import Derived.ProofKit
import Derived.OpenShut
import Derived.ShutString
import Derived.SizedLaws
import Derived.ChangeOld
import Derived.Below
namespace Go.Proofs.Ythkfolohhdafkaa.lossyTurned
open Go.Sort Go.ChangeShapes Go.WideShapes Go.ChangeAt Go.RowKit
open Go.ChangeMaps (open_string shut_string)
set_option linter.unusedVariables false
set_option maxRecDepth 10000

theorem own : ownKnob Try.prog.godebug = none := by kernel_rfl
theorem length_bytes (s : ByteArray) : s.data.toList.length = s.size := by rw [Array.length_toList]; rfl

def Two8 (W : World) (x y : Le) (pv ov : Value) (w' : World) : Prop := ∃ zx zy, pv = .pointer (some ⟨zx, 0, none⟩) ∧ ov = .pointer (some ⟨zy, 0, none⟩) ∧ Blk zx x.arr 27 w' ∧ Blk zy y.arr 27 w' ∧ Below W.heap.size W w'

theorem idx_str (s : ByteArray) (k : Nat) (h : k < s.size) (w : World) : (Instr.index 9 (.string s) (.int .i64 (k : Int))).run Try.prog w = .ok (.int .u8 ((at0 s k).toNat : Int)) w := by
  rw [run_index_string w 9 s .i64 (k : Int) Try.underlying9, dif_pos ⟨by omega, by omega⟩]
  have h1 : k < s.data.toList.length := by rw [Array.length_toList]; exact h
  have e : at0 s k = s[k] := by
    unfold at0
    rw [List.getD, List.getElem?_eq_getElem h1]
    simp
    rfl
  rw [e]
  rfl

set_option maxHeartbeats 8000000 in
theorem walk (la : Option Addr) (L : List Le) (lc : Nat) (lz : L.length * 40 ≤ 140737488351232) (lk : L.length ≤ lc) (lm : lc ≤ maxLen) (ls : ∀ x ∈ L, x.small) (p : Pi) (kp : p.fit) (q : Pi) (kq : q.fit) (w : World) (hL : Li Le.vals 0 la L w) :
    Calls Try.prog 6 #[.slice la L.length lc, .agg p.arr, .agg q.arr] w fun e w' => e = .returned (.bool true) ∧ Below w.heap.size w w' := by
  obtain ⟨n, hn⟩ : ∃ n, Hid (L.length = n) := ⟨_, rfl⟩
  obtain ⟨A, hA⟩ : ∃ A, Hid (trnL p.fr p.u p.ix p.at_ p.m L = A) := ⟨_, rfl⟩
  have hAn : Hid (A.length = n) := by show _ = _; rw [← hA.out, trn_len, hn.out]
  have hAs : Hid (∀ x ∈ A, x.small) := by show ∀ x ∈ A, x.small; rw [← hA.out]; exact trn_small _ _ _ _ _ L ls
  have pT := turn_ok L la lc p.fr p.u p.ix p.at_ p.m ⟨kp.1, kp.2.1⟩ kp.2.2.2.1 kp.2.2.2.2 lz ls
  have pF := find_ok L la lc p.fr p.u p.ix ⟨kp.1, kp.2.1⟩ lz
  unfold MadeL at pT
  rw [hA.out, hAn.out, hn.out] at pT
  rw [hn.out] at pF
  obtain ⟨P0, hP0⟩ : ∃ P0, Hid (pickL p.fr p.u p.ix L = P0) := ⟨_, rfl⟩
  have hI : isL p.fr p.u p.ix L = P0.isSome := by unfold isL; rw [hP0.out]
  rw [hP0.out, hI] at pF
  obtain ⟨p0, hp0⟩ : ∃ p0, Hid (P0.getD 0 = p0) := ⟨_, rfl⟩
  obtain ⟨t0, ht0⟩ : ∃ t0, Hid (P0.isSome = t0) := ⟨_, rfl⟩
  rw [hp0.out, ht0.out] at pF
  rw [hn.out] at lz lk ⊢
  clear hI
  obtain ⟨vP, vQ, hB⟩ := two_blk (T0 := 25) (T1 := 25) (C0 := p.arr) (C1 := q.arr) (w := w) rfl
  go_enter Try.func6, Try.ntmps6
  go_upto_region 1 with fail
  try simp only [Act.put]
  try simp only [alloc_size]
  generalize (w.alloc (Obj.cells p.arr 25)).alloc (Obj.cells q.arr 25) = W at vP vQ hB ⊢
  have e0 : W.cell? ⟨w.heap.size, 0, none⟩ = some (.int .i64 p.fr) := vP.cell 0 _ rfl
  have e1 : W.cell? ⟨w.heap.size, 1, none⟩ = some (.int .i64 p.u) := vP.cell 1 _ rfl
  have e2 : W.cell? ⟨w.heap.size, 2, none⟩ = some (.int .i64 p.ix) := vP.cell 2 _ rfl
  have e3 : W.cell? ⟨w.heap.size, 3, none⟩ = some (.int .i64 p.at_) := vP.cell 3 _ rfl
  have e4 : W.cell? ⟨w.heap.size, 4, none⟩ = some (.int .u32 (p.m : Int)) := vP.cell 4 _ rfl
  go_wp2_with fail
  refine (pT W (hL.below hB)).mono ?_
  rintro r w1 ⟨⟨aA, cA, rfl, oA⟩, hb⟩
  clear e0 e1 e2 e3 e4 pT
  replace oA := oA.li.mono (B' := 0) (Nat.zero_le _)
  replace vP := vP.below hb
  replace vQ := vQ.below hb
  replace hB := below_next hB hb
  clear hb
  have e0 : w1.cell? ⟨w.heap.size, 0, none⟩ = some (.int .i64 p.fr) := vP.cell 0 _ rfl
  have e1 : w1.cell? ⟨w.heap.size, 1, none⟩ = some (.int .i64 p.u) := vP.cell 1 _ rfl
  have e2 : w1.cell? ⟨w.heap.size, 2, none⟩ = some (.int .i64 p.ix) := vP.cell 2 _ rfl
  go_wp2_with fail
  refine (pF w1 (hL.below hB)).mono ?_
  rintro r w2 ⟨rfl, hb⟩
  clear e0 e1 e2 pF
  replace oA := oA.below hb
  replace vP := vP.below hb
  replace vQ := vQ.below hb
  replace hB := below_next hB hb
  clear hb
  go_wp2_with fail
  refine (fixed_ok w2).mono ?_
  rintro r w3 ⟨rfl, hb⟩
  replace oA := oA.below hb
  replace vP := vP.below hb
  replace vQ := vQ.below hb
  replace hB := below_next hB hb
  clear hb
  have n0 : ((n : Int) != (n : Int)) = false := by simp
  go_upto_region 6 with fail
  try simp only [Act.put]
  clear n0
  go_loopw [10] (fun iv wr => ∃ i : Nat, i ≤ n ∧ iv = .int .i64 i ∧ Below w3.heap.size w3 wr) (fun iv _ => n - (intOf iv).toNat)
  case atStart => exact ⟨0, by omega, rfl, Below.refl _ _⟩
  case round =>
    obtain ⟨i, hi, rfl, hb3⟩ := hrel
    rename World => wr
    by_cases hin : i < n
    · have i0 : (i : Int) < (n : Int) := by omega
      have i1 : (0 : Int) ≤ (i : Int) := by omega
      obtain ⟨x, hx⟩ : ∃ x, L[i]? = some x := ⟨_, List.getElem?_eq_getElem (by rw [hn.out]; exact hin)⟩
      obtain ⟨y, hy⟩ : ∃ y, A[i]? = some y := ⟨_, List.getElem?_eq_getElem (by rw [hAn.out]; exact hin)⟩
      have hL1 := hL.below (below_next hB hb3)
      have hA1 := oA.below hb3
      have vP1 := vP.below hb3
      have vQ1 := vQ.below hb3
      obtain ⟨b, o, rfl, _, _, _⟩ := hL1.at Le.vals_length i x hx
      obtain ⟨b', o', rfl, _, _, _⟩ := hA1.at Le.vals_length i y hy
      go_upto_region 8 with fail
      try simp only [Act.put]
      go_cut [11, 12] from 53 to 60 (fun pv ov wx => Two8 wr x y pv ov wx)
      case first =>
        refine wp_region_held_drew (S := fun v => Below wr.heap.size wr v) (by kernel_rfl) (Below.refl _ _).drew (fun hHeld => ?_)
        refine wpAnyH_take (i := 0) (v := ?v1) rfl (by kernel_rfl) (by kernel_rfl) (by kernel_rfl) (fun _ _ _ h => h) (Or.inl ⟨by rfl, ?hy1⟩) hHeld ?rest1
        case hy1 => (intro w hSw; clear hSw; go_simp; try with_reducible rfl)
        try simp only [List.getElem_toArray]
        try simp only [List.getElem_cons_succ]
        try simp only [List.getElem_cons_zero]
        try simp only [Act.put]
        try simp only [List.setIfInBounds_toArray]
        try simp only [List.set_cons_succ]
        try simp only [List.set_cons_zero]
        refine wpAnyH_take (i := 1) (v := ?v2) rfl (by kernel_rfl) (by kernel_rfl) (by kernel_rfl) (fun _ _ _ h => h) (Or.inl ⟨by rfl, ?hy2⟩) hHeld ?rest2
        case hy2 => (intro w hSw; clear hSw; go_simp; try with_reducible rfl)
        try simp only [List.getElem_toArray]
        try simp only [List.getElem_cons_succ]
        try simp only [List.getElem_cons_zero]
        try simp only [Act.put]
        try simp only [List.setIfInBounds_toArray]
        try simp only [List.set_cons_succ]
        try simp only [List.set_cons_zero]
        refine wpAnyH_take (i := 2) (v := ?v3) rfl (by kernel_rfl) (by kernel_rfl) (by kernel_rfl) (fun _ _ _ h => h) (Or.inl ⟨by rfl, ?hy3⟩) hHeld ?rest3
        case hy3 => (intro w hSw; clear hSw; go_simp; try with_reducible rfl)
        try simp only [List.getElem_toArray]
        try simp only [List.getElem_cons_succ]
        try simp only [List.getElem_cons_zero]
        try simp only [Act.put]
        try simp only [List.setIfInBounds_toArray]
        try simp only [List.set_cons_succ]
        try simp only [List.set_cons_zero]
        refine' wpAnyH_take (i := 3) (v := _) rfl (by kernel_rfl) (by kernel_rfl) (by kernel_rfl) (fun _ _ _ h => h) (yieldsIf_load_mid (by rfl) _ _ rfl b (o + i * 4) rfl x.vals _ ?hS4 Try.underlying27 rfl sizeLe) hHeld ?rest4
        case hS4 => exact fun w h => ((hL1.below h).rng Le.vals_length i x hx)
        try simp only [List.getElem_toArray]
        try simp only [List.getElem_cons_succ]
        try simp only [List.getElem_cons_zero]
        try simp only [Act.put]
        try simp only [List.setIfInBounds_toArray]
        try simp only [List.set_cons_succ]
        try simp only [List.set_cons_zero]
        refine wpAnyH_take (i := 4) (v := ?v5) rfl (by kernel_rfl) (by kernel_rfl) (by kernel_rfl) (fun _ _ _ h => h) (Or.inl ⟨by rfl, ?hy5⟩) hHeld ?rest5
        case hy5 => (intro w hSw; clear hSw; go_simp; try with_reducible rfl)
        try simp only [List.getElem_toArray]
        try simp only [List.getElem_cons_succ]
        try simp only [List.getElem_cons_zero]
        try simp only [Act.put]
        try simp only [List.setIfInBounds_toArray]
        try simp only [List.set_cons_succ]
        try simp only [List.set_cons_zero]
        refine wpAnyH_take (i := 5) (v := ?v6) rfl (by kernel_rfl) (by kernel_rfl) (by kernel_rfl) (fun _ _ _ h => h) (Or.inl ⟨by rfl, ?hy6⟩) hHeld ?rest6
        case hy6 => (intro w hSw; clear hSw; go_simp; try with_reducible rfl)
        try simp only [List.getElem_toArray]
        try simp only [List.getElem_cons_succ]
        try simp only [List.getElem_cons_zero]
        try simp only [Act.put]
        try simp only [List.setIfInBounds_toArray]
        try simp only [List.set_cons_succ]
        try simp only [List.set_cons_zero]
        refine wpAnyH_take (i := 6) (v := ?v7) rfl (by kernel_rfl) (by kernel_rfl) (by kernel_rfl) (fun _ _ _ h => h) (Or.inl ⟨by rfl, ?hy7⟩) hHeld ?rest7
        case hy7 => (intro w hSw; clear hSw; go_simp; try with_reducible rfl)
        try simp only [List.getElem_toArray]
        try simp only [List.getElem_cons_succ]
        try simp only [List.getElem_cons_zero]
        try simp only [Act.put]
        try simp only [List.setIfInBounds_toArray]
        try simp only [List.set_cons_succ]
        try simp only [List.set_cons_zero]
        refine' wpAnyH_take (i := 7) (v := _) rfl (by kernel_rfl) (by kernel_rfl) (by kernel_rfl) (fun _ _ _ h => h) (yieldsIf_load_mid (by rfl) _ _ rfl b' (o' + i * 4) rfl y.vals _ ?hS8 Try.underlying27 rfl sizeLe) hHeld ?rest8
        case hS8 => exact fun w h => ((hA1.below h).rng Le.vals_length i y hy)
        try simp only [List.getElem_toArray]
        try simp only [List.getElem_cons_succ]
        try simp only [List.getElem_cons_zero]
        try simp only [Act.put]
        try simp only [List.setIfInBounds_toArray]
        try simp only [List.set_cons_succ]
        try simp only [List.set_cons_zero]
        refine wpAnyH_ready (rs := [8, 9]) (by kernel_rfl) (by simp) ?_
        refine AllReadyH.cons rfl (fun K hK => ?_) (AllReadyH.cons rfl (fun K hK => ?_) (AllReadyH.nil))
        · rw [if_pos (by rfl)]
          refine wp_alloc_any zeroLe rfl ?_
          intro xp u1 x0 hb xl xt
          have xg := Nat.le_trans hHeld.size xl
          refine hK.out _ _ (below_next hHeld hb) (fun hHeld => ?_)
          clear hK K hb xl xt
          try simp only [List.getElem_toArray]
          try simp only [List.getElem_cons_succ]
          try simp only [List.getElem_cons_zero]
          try simp only [Act.put]
          try simp only [List.setIfInBounds_toArray]
          try simp only [List.set_cons_succ]
          try simp only [List.set_cons_zero]
          refine wpAnyH_ready (rs := [9]) (by kernel_rfl) (by simp) ?_
          refine AllReadyH.cons rfl (fun K hK => ?_) (AllReadyH.nil)
          rw [if_pos (by rfl)]
          refine wp_alloc_any zeroLe rfl ?_
          intro yp u2 y0 hb yl yt
          have yg := Nat.le_trans hHeld.size yl
          have hxy : xp ≠ yp := by have := x0.lt; omega
          replace x0 := x0.below hb
          refine hK.out _ _ (below_next hHeld hb) (fun hHeld => ?_)
          clear hK K hb yl yt
          try simp only [List.getElem_toArray]
          try simp only [List.getElem_cons_succ]
          try simp only [List.getElem_cons_zero]
          try simp only [Act.put]
          try simp only [List.setIfInBounds_toArray]
          try simp only [List.set_cons_succ]
          try simp only [List.set_cons_zero]
          refine wpAnyH_ready (rs := [10]) (by kernel_rfl) (by simp) ?_
          refine AllReadyH.cons rfl (fun K hK => ?_) (AllReadyH.nil)
          rw [if_pos (by rfl)]
          refine wp_store_all 27 _ _ rfl (cells := x.arr) x0 rfl rfl sizeLe rfl (Le.arr_one _) ?_
          intro u3 hn9 hk9
          replace x0 := hn9
          replace y0 := y0.kp1 hk9 (by omega)
          refine hK.out _ _ (below_at hHeld hk9 xg) (fun hHeld => ?_)
          clear hK K hk9 hn9
          try simp only [List.getElem_toArray]
          try simp only [List.getElem_cons_succ]
          try simp only [List.getElem_cons_zero]
          try simp only [Act.put]
          try simp only [List.setIfInBounds_toArray]
          try simp only [List.set_cons_succ]
          try simp only [List.set_cons_zero]
          refine wpAnyH_ready (rs := [11]) (by kernel_rfl) (by simp) ?_
          refine AllReadyH.cons rfl (fun K hK => ?_) (AllReadyH.nil)
          rw [if_pos (by rfl)]
          refine wp_store_all 27 _ _ rfl (cells := y.arr) y0 rfl rfl sizeLe rfl (Le.arr_one _) ?_
          intro u4 hn9 hk9
          replace y0 := hn9
          replace x0 := x0.kp1 hk9 (by omega)
          refine hK.out _ _ (below_at hHeld hk9 yg) (fun hHeld => ?_)
          clear hK K hk9 hn9
          try simp only [List.getElem_toArray]
          try simp only [List.getElem_cons_succ]
          try simp only [List.getElem_cons_zero]
          try simp only [Act.put]
          try simp only [List.setIfInBounds_toArray]
          try simp only [List.set_cons_succ]
          try simp only [List.set_cons_zero]
          refine wpAnyH_done (by kernel_rfl) ?_ _
          go_wp2_with fail
          go_meet
          exact ⟨xp, yp, rfl, rfl, x0, y0, hHeld⟩
        · rw [if_pos (by rfl)]
          refine wp_alloc_any zeroLe rfl ?_
          intro yp u5 y0 hb yl yt
          have yg := Nat.le_trans hHeld.size yl
          refine hK.out _ _ (below_next hHeld hb) (fun hHeld => ?_)
          clear hK K hb yl yt
          try simp only [List.getElem_toArray]
          try simp only [List.getElem_cons_succ]
          try simp only [List.getElem_cons_zero]
          try simp only [Act.put]
          try simp only [List.setIfInBounds_toArray]
          try simp only [List.set_cons_succ]
          try simp only [List.set_cons_zero]
          refine wpAnyH_ready (rs := [8]) (by kernel_rfl) (by simp) ?_
          refine AllReadyH.cons rfl (fun K hK => ?_) (AllReadyH.nil)
          rw [if_pos (by rfl)]
          refine wp_alloc_any zeroLe rfl ?_
          intro xp u6 x0 hb xl xt
          have xg := Nat.le_trans hHeld.size xl
          have hxy : xp ≠ yp := by have := y0.lt; omega
          replace y0 := y0.below hb
          refine hK.out _ _ (below_next hHeld hb) (fun hHeld => ?_)
          clear hK K hb xl xt
          try simp only [List.getElem_toArray]
          try simp only [List.getElem_cons_succ]
          try simp only [List.getElem_cons_zero]
          try simp only [Act.put]
          try simp only [List.setIfInBounds_toArray]
          try simp only [List.set_cons_succ]
          try simp only [List.set_cons_zero]
          refine wpAnyH_ready (rs := [10]) (by kernel_rfl) (by simp) ?_
          refine AllReadyH.cons rfl (fun K hK => ?_) (AllReadyH.nil)
          rw [if_pos (by rfl)]
          refine wp_store_all 27 _ _ rfl (cells := x.arr) x0 rfl rfl sizeLe rfl (Le.arr_one _) ?_
          intro u7 hn9 hk9
          replace x0 := hn9
          replace y0 := y0.kp1 hk9 (by omega)
          refine hK.out _ _ (below_at hHeld hk9 xg) (fun hHeld => ?_)
          clear hK K hk9 hn9
          try simp only [List.getElem_toArray]
          try simp only [List.getElem_cons_succ]
          try simp only [List.getElem_cons_zero]
          try simp only [Act.put]
          try simp only [List.setIfInBounds_toArray]
          try simp only [List.set_cons_succ]
          try simp only [List.set_cons_zero]
          refine wpAnyH_ready (rs := [11]) (by kernel_rfl) (by simp) ?_
          refine AllReadyH.cons rfl (fun K hK => ?_) (AllReadyH.nil)
          rw [if_pos (by rfl)]
          refine wp_store_all 27 _ _ rfl (cells := y.arr) y0 rfl rfl sizeLe rfl (Le.arr_one _) ?_
          intro u8 hn9 hk9
          replace y0 := hn9
          replace x0 := x0.kp1 hk9 (by omega)
          refine hK.out _ _ (below_at hHeld hk9 yg) (fun hHeld => ?_)
          clear hK K hk9 hn9
          try simp only [List.getElem_toArray]
          try simp only [List.getElem_cons_succ]
          try simp only [List.getElem_cons_zero]
          try simp only [Act.put]
          try simp only [List.setIfInBounds_toArray]
          try simp only [List.set_cons_succ]
          try simp only [List.set_cons_zero]
          refine wpAnyH_done (by kernel_rfl) ?_ _
          go_wp2_with fail
          go_meet
          exact ⟨xp, yp, rfl, rfl, x0, y0, hHeld⟩
      case rest =>
        obtain ⟨zx, zy, rfl, rfl, x0, y0, hbr⟩ := hcut
        rename World => U
        have hb0 := below_next hb3 hbr
        replace hA1 := hA1.below hbr
        replace vP1 := vP1.below hbr
        replace vQ1 := vQ1.below hbr
        clear hb3 hbr hL1
        obtain ⟨t, ht⟩ : ∃ t, Le.same x y = t := ⟨_, rfl⟩
        have kE := eqlLe x y t ht
        cases t with
        | true =>
          clear hx hy
          go_wp2_with (first | refine load_blk rfl 27 _ rfl x0 rfl Try.underlying27 rfl sizeLe ?_ | refine load_blk rfl 27 _ rfl y0 rfl Try.underlying27 rfl sizeLe ?_)
          exact ⟨⟨i + 1, by omega, by go_num, hb0⟩, by simp [intOf]; omega⟩
        | false =>
          have hne : x ≠ y := fun h => by rw [h, Le.same_self] at ht; cases ht
          obtain ⟨d1, d2, d3, d4, d5, d6⟩ := trn_diff p.fr p.u p.ix p.at_ p.m L i x y hx (by rw [hA.out]; exact hy) hne
          have hxs : x.t.size ≤ 140737488351232 := ls x (List.mem_of_getElem? hx)
          obtain ⟨nt, hnt⟩ : ∃ nt, Hid (x.t.size = nt) := ⟨_, rfl⟩
          have hyt : Hid (y.t.size = nt) := by show _ = _; rw [d4, trnT_size, hnt.out]
          have hpi : p0 = i := by rw [← hp0.out, ← hP0.out, d1]; rfl
          have hti : t0 = true := by rw [← ht0.out, ← hP0.out, d1]; rfl
          obtain ⟨at0_, hat⟩ := Int.eq_ofNat_of_zero_le d2
          have HB : Hid (∀ k, k < nt → at0 x.t k ≠ at0 y.t k → at0_ ≤ k ∧ k ≤ at0_ + 3) := fun k hk h => trn_byte x.t at0_ p.m k kp.2.2.2.2 (by rw [hnt.out]; exact hk) (by rw [d4, hat] at h; simpa using h)
          have HT : Hid (∀ a' m', trnL p.fr p.u p.ix a' m' A = A) := by show ∀ a' m', _ = _; rw [← hA.out]; exact d6
          have f0 : U.cell? ⟨zx, 3, none⟩ = some (.bool false) := by rw [← d3]; exact x0.cell 3 _ rfl
          have f1 : U.cell? ⟨zy, 3, none⟩ = some (.bool true) := by rw [← d5]; exact y0.cell 3 _ rfl
          have f2 : U.cell? ⟨zx, 2, none⟩ = some (.string x.t) := x0.cell 2 _ rfl
          have f3 : U.cell? ⟨zy, 2, none⟩ = some (.string y.t) := y0.cell 2 _ rfl
          have s1 : (x.t.size : Int) = (nt : Int) := by rw [hnt.out]
          have s2 : (y.t.size : Int) = (nt : Int) := by rw [hyt.out]
          have i2 : ((i : Int) != (p0 : Int)) = false := by rw [hpi]; simp
          have i3 : ((nt : Int) != (nt : Int)) = false := by simp
          subst hti
          rw [hnt.out] at hxs
          have HAT : Hid (p.at_ = (at0_ : Int)) := hat
          clear d1 d2 d3 d4 d5 d6 hne hpi ht hat
          go_upto_region 13 with (go_big_may; first | refine load_blk rfl 27 _ rfl x0 rfl Try.underlying27 rfl sizeLe ?_ | refine load_blk rfl 27 _ rfl y0 rfl Try.underlying27 rfl sizeLe ?_)
          try simp only [Act.put]
          clear f0 f1 f2 f3 i2 i3 kE
          go_loopw [13] (fun kv wx => ∃ k : Nat, k ≤ nt ∧ kv = .int .i64 k ∧ Below U.heap.size U wx) (fun kv _ => nt - (intOf kv).toNat)
          case atStart => exact ⟨0, by omega, rfl, Below.refl _ _⟩
          case round =>
            obtain ⟨k, hk, rfl, hbU⟩ := hrel
            rename World => wx
            have x3 := x0.below hbU
            have y3 := y0.below hbU
            have f2 : wx.cell? ⟨zx, 2, none⟩ = some (.string x.t) := x3.cell 2 _ rfl
            have f3 : wx.cell? ⟨zy, 2, none⟩ = some (.string y.t) := y3.cell 2 _ rfl
            by_cases hkn : k < nt
            · have k0 : (k : Int) < (nt : Int) := by omega
              have k1 : (0 : Int) ≤ (k : Int) := by omega
              have v3 := vP1.below hbU
              have q0 : ∀ d' os, (grow (redrawn wx d') os).cell? ⟨zx, 2, none⟩ = some (.string x.t) := cell_regrown (x3.cell 2 _ rfl)
              have q1 : ∀ d' os, (grow (redrawn wx d') os).cell? ⟨zy, 2, none⟩ = some (.string y.t) := cell_regrown (y3.cell 2 _ rfl)
              have q2 : ∀ d' os, (grow (redrawn wx d') os).cell? ⟨w.heap.size, 3, none⟩ = some (.int .i64 p.at_) := cell_regrown (v3.cell 3 _ rfl)
              have ix : ∀ w, (Instr.index 9 (.string x.t) (.int .i64 (k : Int))).run Try.prog w = .ok (.int .u8 ((at0 x.t k).toNat : Int)) w := fun w => idx_str x.t k (by rw [hnt.out]; exact hkn) w
              have iy : ∀ w, (Instr.index 9 (.string y.t) (.int .i64 (k : Int))).run Try.prog w = .ok (.int .u8 ((at0 y.t k).toNat : Int)) w := fun w => idx_str y.t k (by rw [hyt.out]; exact hkn) w
              clear f3 x3 y3 v3
              by_cases hby : at0 x.t k = at0 y.t k
              · have g0 : (((at0 x.t k).toNat : Int) != ((at0 y.t k).toNat : Int)) = false := by rw [hby]; simp
                go_upto_region 15 with fail
                try simp only [Act.put]
                clear f2
                refine wp_region_quiet_below (by kernel_rfl) (by kernel_rfl) ?_
                repeat (first
                  | go_big_quiet_step (fail))
                refine wpQuiet_nil ?_
                intro _ hw'
                obtain ⟨⟨dq, osq⟩, hw''⟩ := hw'
                have hb := below_regrown wx dq osq
                subst hw''
                generalize grow (redrawn wx dq) osq = u1 at hb ⊢
                replace hbU := below_next hbU hb
                clear hb
                clear q0 q1 q2 g0 ix iy
                go_wp2_with fail
                exact ⟨⟨k + 1, by omega, by go_num, hbU⟩, by simp [intOf]; omega⟩
              · have h9 := HB.out k hkn hby
                have g0 : (((at0 x.t k).toNat : Int) != ((at0 y.t k).toNat : Int)) = true := by
                  rw [bne_iff_ne]
                  intro h
                  exact hby (UInt8.toNat_inj.1 (by omega))
                have g1 : decide ((k : Int) < p.at_) = false := by rw [HAT.out]; simp; omega
                have g2 : decide (p.at_ + 3 < (k : Int)) = false := by rw [HAT.out]; simp; omega
                have g3 : IntKind.i64.wrap (p.at_ + 3) = p.at_ + 3 := by rw [IntKind.wrap_i64, HAT.out]; omega
                clear h9
                go_upto_region 15 with fail
                try simp only [Act.put]
                clear f2
                refine wp_region_quiet_below (by kernel_rfl) (by kernel_rfl) ?_
                repeat (first
                  | go_big_quiet_step (fail))
                refine wpQuiet_nil ?_
                intro _ hw'
                obtain ⟨⟨dq, osq⟩, hw''⟩ := hw'
                have hb := below_regrown wx dq osq
                subst hw''
                generalize grow (redrawn wx dq) osq = u1 at hb ⊢
                replace hbU := below_next hbU hb
                clear hb
                clear q0 q1 q2 g0 ix iy
                go_wp2_with fail
                exact ⟨⟨k + 1, by omega, by go_num, hbU⟩, by simp [intOf]; omega⟩
            · obtain rfl : k = nt := by omega
              have v3 := vP1.below hbU
              have z3 := vQ1.below hbU
              have e0 : wx.cell? ⟨w.heap.size, 0, none⟩ = some (.int .i64 p.fr) := v3.cell 0 _ rfl
              have e1 : wx.cell? ⟨w.heap.size, 1, none⟩ = some (.int .i64 p.u) := v3.cell 1 _ rfl
              have e2 : wx.cell? ⟨w.heap.size, 2, none⟩ = some (.int .i64 p.ix) := v3.cell 2 _ rfl
              have e3 : wx.cell? ⟨w.heap.size + 1, 3, none⟩ = some (.int .i64 q.at_) := z3.cell 3 _ rfl
              have e4 : wx.cell? ⟨w.heap.size + 1, 4, none⟩ = some (.int .u32 (q.m : Int)) := z3.cell 4 _ rfl
              have pT := turn_ok A (some ⟨b', o', none⟩) cA p.fr p.u p.ix q.at_ q.m ⟨kp.1, kp.2.1⟩ kq.2.2.2.1 kq.2.2.2.2 (by rw [hAn.out]; exact lz) hAs.out wx (hA1.below hbU)
              have pS := fun a c w7 h7 h8 => lsame_ok A (some ⟨b', o', none⟩) a cA c (by rw [hAn.out]; omega) w7 h7 h8
              unfold MadeL at pT
              rw [HT.out, hAn.out] at pT
              rw [hAn.out] at pS
              clear v3 z3 x3 y3 f3
              go_wp2_with fail
              refine pT.mono ?_
              rintro r w5 ⟨⟨a5, c5, rfl, o5⟩, hb⟩
              replace hbU := below_next hbU hb
              clear hb pT e0 e1 e2 e3 e4 f2
              go_wp2_with fail
              refine (pS a5 c5 w5 (hA1.below hbU) (o5.li.mono (Nat.zero_le _))).mono ?_
              rintro r w6 ⟨rfl, hb⟩
              replace hbU := below_next hbU hb
              clear hb pS
              go_wp2_with fail
              exact ⟨⟨i + 1, by omega, by go_num, below_next hb0 hbU⟩, by simp [intOf]; omega⟩
    · obtain rfl : i = n := by omega
      go_wp2_with fail
      go_ret
      exact ⟨rfl, below_next hB hb3⟩

set_option maxRecDepth 100000 in
theorem lifted (os : Go.Os) (started : os.Started) (H : Type) (enc : TypeId × Value → H) :
    ReturnsInHanded {} Try.checked os 6 .any (Rows.lossyTurnedSpec.pre6 enc Try.prog Try.f6 Rows.lossyTurnedRow.domain false) (Rows.lossyTurnedSpec.post enc Try.prog Try.f6 false true false false) := by
  refine returnsInHanded_of_change_sized (C := Try.checked) own started (by kernel_rfl) Try.func6
    (ChangeSpec.witness6 (enc := enc) (C := Try.checked) false ⟨#[], #[.slice none 0 0, .agg Pi.zero.arr, .agg Pi.zero.arr], []⟩ 8 (by kernel_rfl) (by kernel_rfl) (by kernel_rfl) (by kernel_rfl)) ?_
  intro W base args ds gs before hval0 hW hcnd hsz0 _
  have hval : ∀ (j : Nat) t v, Try.f6.params[j]? = some t → args[j]? = some v → Value.okWide Try.prog W .any base t v := hval0
  have hsz : (DataW.weightsEach Try.prog (Try.f6.params.toList ++ Rows.lossyTurnedSpec.plain.varTypes Try.prog) (ds ++ gs)).all (· ≤ reachBytes) = true := hsz0
  have hW' := hW
  obtain ⟨p, q, hA0, hV, rfl, hfz, hnd⟩ := hW
  have hA : DataW.TrodAll enc Try.prog W 0 (fun _ => true) true Try.f6.params.toList args.toList ds p := hA0
  rw [Try.params6] at hA hval hsz

  obtain ⟨v0, vs0, d0, ds0, p0, q0, hargs, rfl, rfl, h0, r0⟩ := trodAll_cons hA
  obtain ⟨v1, vs1, d1, ds1, p1, q1, rfl, rfl, rfl, h1, r1⟩ := trodAll_cons r0
  obtain ⟨v2, vs2, d2, ds2, p2, q2, rfl, rfl, rfl, h2, r2⟩ := trodAll_cons r1
  obtain ⟨rfl, rfl, rfl⟩ := trodAll_nil r2
  obtain rfl : args = #[v0, v1, v2] := by cases args; simp_all
  obtain ⟨rfl, rfl⟩ := trodVars_none hV
  obtain ⟨la0, L0, lc0, rfl, lz0, hc0, hm0, ls0, hS0⟩ := open_les (okWide_slice Try.underlying22 (hval 0 22 v0 rfl rfl)) (fun n hn => of_decide_eq_true (List.all_eq_true.1 hsz _ (DataW.weights_mem_each (j := 0) rfl rfl n hn))) h0
  obtain ⟨x1, rfl, kx1⟩ := open_pi (by obtain ⟨cs, h1, _⟩ := okWide_struct Try.underlying25 (hval 1 25 v1 rfl rfl); exact ⟨cs, h1⟩) h1
  obtain ⟨x2, rfl, kx2⟩ := open_pi (by obtain ⟨cs, h1, _⟩ := okWide_struct Try.underlying25 (hval 2 25 v2 rfl rfl); exact ⟨cs, h1⟩) h2
  have hA2 := hA0
  clear hA0 hval0 hsz0
  simp only [List.append_nil] at hW'
  refine (walk la0 L0 lc0 lz0 hc0 hm0 ls0 x1 kx1 x2 kx2 W hS0).mono fun e W' ⟨he, bel⟩ => ?_
  subst he
  exact ⟨_, rfl, _, _, _, [], _, [], hW', trodAll_mk1 (shut_bool Try.underlying4 _), (stays_all laidOut bel (by kernel_rfl) hA2), rfl, bel.frame _, fun h => by cases h⟩

theorem over : Rows.lossyTurnedRow.holds Try.pinned (OpenSpec.ofChange Rows.lossyTurnedSpec) :=
  OpenClaim.holds_of_wide 6 Try.f6 rfl rfl rfl rfl rfl rfl rfl ⟨rfl, rfl, rfl, rfl, rfl⟩ rfl rfl rfl rfl rfl (by kernel_rfl) Try.func6 (by kernel_rfl)
    (of_decide_eq_true (by kernel_rfl)) (by unfold Func.isWrapper; first | (rw [if_pos (by decide +kernel)]; kernel_rfl) | (rw [if_neg (by decide +kernel)]; exact ⟨rfl, rfl⟩))
    (fun os started H enc _ => lifted os started H enc)

end Go.Proofs.Ythkfolohhdafkaa.lossyTurned
namespace Go.Proofs.Ythkfolohhdafkaa

theorem lossyTurned_holds : Rows.LossyTurnedSaid := lossyTurned.over
#print axioms lossyTurned_holds

end Go.Proofs.Ythkfolohhdafkaa
