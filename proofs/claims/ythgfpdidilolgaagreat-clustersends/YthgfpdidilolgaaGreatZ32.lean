/-
  Of the texts beneath these laws, in their order: ClF, ClG.
  Each theorem says its own conditions.
-/
import Derived.Test.YthgfpdidilolgaaGreatZ17
import Derived.Test.YthgfpdidilolgaaGreatZ31
namespace Go.Proofs.YthgfpdidilolgaaGreat
set_option maxRecDepth 10000
set_option linter.unusedSimpArgs false
open Go.RowKit Go.Sort
set_option linter.unusedVariables false
structure Gd (m : Nat) (S : Cs) : Prop where
 b : m ≤ 1000000
 n : S.up.length = S.cs.length
 c : ∀ (i : Nat) (x : Co × List Kt), S.cs[i]? = some x → i < 8 ∧ x.1.self = (i : Int) ∧ x.1.fit ∧ x.2.length ≤ m
 t : S.t.length ≤ m
 l : S.ls.length ≤ 4096
def Bec (P : Nat) (S : Cs) (i : Nat) (I : Idn) (s : Sg) (g cc u uc : Nat) (la : Option Addr) (lc : Nat) (W : List Nat) (w w' : World) : Prop :=
 ∃ a k ta' tc', Uc P (becS S i (s.c.kp a s.L.length k) s.L I s.t) g cc u uc la lc ta' tc' w' ∧ Kp W w w' ∧ ∀ b ∈ blkOf ta', b ∈ W ∨ w.heap.size ≤ b
set_option maxHeartbeats 8000000 in
theorem receive_no {P : Nat} {w : World} (who : Int) (t : ByteArray) (c : Int) (hc : c ≠ 0) (hd : ∀ w, Calls Tryz.prog 107 #[.string t] w fun e w' => ∃ p, e = .returned (.tuple #[.agg (pkc p), .int .i64 c]) ∧ Below w.heap.size w w') :
  Calls Tryz.prog 65 #[.pointer (some ⟨P, 0, none⟩), .int .i64 who, .string t] w fun e w' => e = .returned (.tuple #[]) ∧ Below w.heap.size w w' := by
 have hc1 : (c != 0) = true := by simp [hc]
 go_enter Tryz.func65, Tryz.ntmps65
 go_wp2_with fail
 refine (hd _).mono ?_
 rintro r w1 ⟨p, rfl, hb⟩
 have hb2 := below_box w1 (.cells (pkc p) 116)
 clear hd
 go_wp2_with (first | refine alloc_zero zeroPk rfl rfl ?_ | refine store_new rfl 116 _ _ rfl (cells := pkc p) rfl rfl sizePk rfl (pkc_one _) ?_)
 (try simp only [Exit.inBlock, Exit.then])
 refine bodyPost_ret (results_none rfl _ _ _) rfl ?_
 exact ⟨rfl, hb.trans (hb2.mono hb.size)⟩
def isUpB (S : Cs) (who : Int) : Bool := isD S.cs.length who && S.up.getD who.toNat false
set_option maxHeartbeats 8000000 in
theorem receive_down {P : Nat} {S : Cs} {g cc u uc : Nat} {la : Option Addr} {lc : Nat} {ta : Option Addr} {tc : Nat} {w : World} (h : Uc P S g cc u uc la lc ta tc w) {m : Nat} (hG : Gd m S) (who : Int) (t : ByteArray) (p : Pk) (hd : ∀ w, Calls Tryz.prog 107 #[.string t] w fun e w' => e = .returned (.tuple #[.agg (pkc p), .int .i64 0]) ∧ Below w.heap.size w w') (hu : isUpB S who = false) :
  Calls Tryz.prog 65 #[.pointer (some ⟨P, 0, none⟩), .int .i64 who, .string t] w fun e w' => e = .returned (.tuple #[]) ∧ Below w.heap.size w w' := by
 go_enter Tryz.func65, Tryz.ntmps65
 go_wp2_with fail
 refine (hd _).mono ?_
 rintro r w1 ⟨rfl, hb⟩
 have hb2 := below_box w1 (.cells (pkc p) 116)
 clear hd
 go_upto_region 1 with (go_big_may; first | refine alloc_zero zeroPk rfl rfl ?_ | refine store_new rfl 116 _ _ rfl (cells := pkc p) rfl rfl sizePk rfl (pkc_one _) ?_)
 try simp only [Act.put, List.setIfInBounds_toArray, List.set_cons_zero, List.set_cons_succ]
 generalize w1.alloc (Obj.cells (pkc p) 116) = w2 at hb2 ⊢
 replace hb := hb.trans (hb2.mono hb.size)
 clear hb2
 have q := isUp_ok (h.below hb) hG.n who
 rw [show (isD S.cs.length who && S.up.getD who.toNat false) = false from hu] at q
 clear hu h hG
 go_wp2_with fail
 refine q.mono ?_
 rintro r w3 ⟨rfl, hb3⟩
 clear q
 go_wp2_with fail
 (try simp only [Exit.inBlock, Exit.then])
 refine bodyPost_ret (results_none rfl _ _ _) rfl ?_
 exact ⟨rfl, hb.trans (hb3.mono hb.size)⟩
set_option maxHeartbeats 8000000 in
theorem receive_ok {P : Nat} {S : Cs} {g cc u uc : Nat} {la : Option Addr} {lc : Nat} {ta : Option Addr} {tc : Nat} {w : World} (h : Uc P S g cc u uc la lc ta tc w) {m : Nat} (hG : Gd m S) (i : Nat) (t : ByteArray) (p : Pk) (hd : ∀ w, Calls Tryz.prog 107 #[.string t] w fun e w' => e = .returned (.tuple #[.agg (pkc p), .int .i64 0]) ∧ Below w.heap.size w w') (hu : isUpB S (i : Int) = true)
  (x : Co × List Kt) (hx : S.cs[i]? = some x) :
  Calls Tryz.prog 65 #[.pointer (some ⟨P, 0, none⟩), .int .i64 (i : Int), .string t] w fun e w' => e = .returned (.tuple #[]) ∧ Bec P S i x.1.conf (recvS x.1 x.2 p) g cc u uc la lc (wbs P g u ta) w w' := by
 obtain ⟨hi8, hcs, hft, hlz⟩ := hG.c i x hx
 have hmb := hG.b
 have hi : i < S.cs.length := (List.getElem?_eq_some_iff.1 hx).1
 obtain ⟨hkn, hK, hKo⟩ := h.fk x (List.mem_of_getElem? hx)
 have hlen := recvS_len x.1 x.2 p
 obtain ⟨s, es⟩ : ∃ s, Hid (recvS x.1 x.2 p = s) := ⟨_, rfl⟩
 have pR := fun u hu => crecv_kp x.1 x.2 p i hi8 hcs hft x.1.ka x.1.kc (by omega) u hu
 rw [kp_self x.1 x.2.length hkn] at pR
 rw [es.out] at pR hlen ⊢
 obtain ⟨n, en⟩ : ∃ n, Hid (S.cs.length = n) := ⟨_, rfl⟩
 have hin : i < n := by rw [← en.out]; exact hi
 go_enter Tryz.func65, Tryz.ntmps65
 go_wp2_with fail
 refine (hd _).mono ?_
 rintro r w1 ⟨rfl, hb⟩
 have hb2 := below_box w1 (.cells (pkc p) 116)
 have b6 := blk_new w1 (pkc p) 116
 clear hd
 go_upto_region 1 with (go_big_may; first | refine alloc_zero zeroPk rfl rfl ?_ | refine store_new rfl 116 _ _ rfl (cells := pkc p) rfl rfl sizePk rfl (pkc_one _) ?_)
 try simp only [Act.put, List.setIfInBounds_toArray, List.set_cons_zero, List.set_cons_succ]
 generalize w1.alloc (Obj.cells (pkc p) 116) = w2 at hb2 b6 ⊢
 replace hb := hb.trans (hb2.mono hb.size)
 clear hb2
 have q := isUp_ok (h.below hb) hG.n (i : Int)
 rw [show (isD S.cs.length (i : Int) && S.up.getD (i : Int).toNat false) = true from hu] at q
 clear hu
 go_wp2_with fail
 refine q.mono ?_
 rintro r V ⟨rfl, hb3⟩
 replace b6 := b6.below hb3
 replace hb := hb.trans (hb3.mono hb.size)
 have hV := h.below hb
 have hK0 := hK.below hb
 clear q hb3 hK hi8 hcs hft hlz
 go_upto_region 2 with fail
 go_cut [8, 9, 10] from 24 to 37 (fun pv bv tv wx => ∃ a2 k2 t2 j2 y, pv = .pointer (some ⟨y, 0, none⟩) ∧ tv = .slice t2 s.t.length j2 ∧ Blk y (coc (s.c.kp a2 s.L.length k2)) 78 wx ∧ Li Kt.vals V.heap.size a2 s.L wx ∧ Li Hp.vals V.heap.size t2 s.t wx ∧ Below V.heap.size V wx)
 case first =>
  refine wp_region_held_drew (S := fun w' => Below V.heap.size V w') (by kernel_rfl) (Below.refl _ _).drew (fun hHeld => ?_)
  refine tkH 0 (v := ?v1) rfl (by kernel_rfl) (fun _ _ _ h => h) (Or.inl ⟨by rfl, ?hy1⟩) hHeld ?_
  case hy1 => (intro w hSw; clear hSw; go_simp; try with_reducible rfl)
  try simp only [yA, yB, yC, Act.put, yD, yE, yF]
  refine tkH 1 (v := ?v2) rfl (by kernel_rfl) (fun _ _ _ h => h) (Or.inl ⟨by rfl, ?hy2⟩) hHeld ?_
  case hy2 => (intro w hSw; clear hSw; go_simp; try with_reducible rfl)
  try simp only [yA, yB, yC, Act.put, yD, yE, yF]
  refine tkH 2 (v := ?v3) rfl (by kernel_rfl) (fun _ _ _ h => h) (Or.inl ⟨by rfl, ?hy3⟩) hHeld ?_
  case hy3 => (intro w hSw; clear hSw; go_simp; try with_reducible rfl)
  try simp only [yA, yB, yC, Act.put, yD, yE, yF]
  refine tkH 3 (v := ?v4) rfl (by kernel_rfl) (fun _ _ _ h => h) (Or.inl ⟨by rfl, ?hy4⟩) hHeld ?_
  case hy4 => (intro w hSw; clear hSw; go_simp; try with_reducible rfl)
  try simp only [yA, yB, yC, Act.put, yD, yE, yF]
  refine tkH 4 (v := ?v5) rfl (by kernel_rfl) (fun _ _ _ h => h) (Or.inl ⟨by rfl, ?hy5⟩) hHeld ?_
  case hy5 => (intro w hSw; have hc : w.cell? ⟨P, 1, none⟩ = some (.slice (some ⟨g, 0, none⟩) n cc) := (by rw [← en.out]; exact (hV.below hSw).fb.cell 1 _ rfl); clear hSw; go_simp; try with_reducible rfl)
  try simp only [yA, yB, yC, Act.put, yD, yE, yF]
  refine tkH 5 (v := ?v6) rfl (by kernel_rfl) (fun _ _ _ h => h) (Or.inl ⟨by rfl, ?hy6⟩) hHeld ?_
  case hy6 => (intro w hSw; clear hSw; go_simp; try with_reducible rfl)
  try simp only [yA, yB, yC, Act.put, yD, yE, yF]
  refine tkH 6 (v := ?v7) rfl (by kernel_rfl) (fun _ _ _ h => h) (Or.inl ⟨by rfl, ?hy7⟩) hHeld ?_
  case hy7 => (intro w hSw; clear hSw; go_simp; try with_reducible rfl)
  try simp only [yA, yB, yC, Act.put, yD, yE, yF]
  refine' tkH 7 (v := _) rfl (by kernel_rfl) (fun _ _ _ h => h) (yieldsIf_load_mid (by rfl) _ _ rfl g (i * 189) rfl (col x.1) _ ?hS8 Tryz.underlying78 rfl sizeCo) hHeld ?_
  case hS8 => exact fun w h => (hV.below h).fc.at cov_length i x hx
  try simp only [yA, yB, yC, Act.put, yD, yE, yF]
  refine' tkH 8 (v := _) rfl (by kernel_rfl) (fun _ _ _ h => h) (yieldsIf_load_mid (by rfl) _ _ rfl w1.heap.size 0 rfl (pkl p) _ ?hS9 Tryz.underlying116 rfl sizePk) hHeld ?_
  case hS9 => exact fun w h => (b6.below h).whole
  try simp only [yA, yB, yC, Act.put, yD, yE, yF]
  refine wpAnyH_ready (rs := [9, 14]) (by kernel_rfl) (by simp) ?_
  refine AllReadyH.cons rfl (fun K hK => ?_) (AllReadyH.cons rfl (fun K hK => ?_) (AllReadyH.nil))
  ·have hcz := hHeld.size
   go_simp
   go_wp2_with (refine (pR _ (hK0.below hHeld)).mono ?_; rintro r u1 ⟨⟨a2, k2, t2, j2, rfl, l2, m2⟩, hb⟩)
   refine hK.out _ _ (hHeld.below hb) (fun hHeld => ?_)
   clear hK K hb
   refine tkH 10 (v := ?v10) rfl (by kernel_rfl) (fun _ _ _ h => h) (Or.inl ⟨by rfl, ?hy10⟩) hHeld ?_
   case hy10 => (intro w hSw; clear hSw; go_simp; try with_reducible rfl)
   try simp only [yA, yB, yC, Act.put, yD, yE, yF]
   refine tkH 11 (v := ?v11) rfl (by kernel_rfl) (fun _ _ _ h => h) (Or.inl ⟨by rfl, ?hy11⟩) hHeld ?_
   case hy11 => (intro w hSw; clear hSw; go_simp; try with_reducible rfl)
   try simp only [yA, yB, yC, Act.put, yD, yE, yF]
   refine tkH 12 (v := ?v12) rfl (by kernel_rfl) (fun _ _ _ h => h) (Or.inl ⟨by rfl, ?hy12⟩) hHeld ?_
   case hy12 => (intro w hSw; clear hSw; go_simp; try with_reducible rfl)
   try simp only [yA, yB, yC, Act.put, yD, yE, yF]
   refine tkH 13 (v := ?v13) rfl (by kernel_rfl) (fun _ _ _ h => h) (Or.inl ⟨by rfl, ?hy13⟩) hHeld ?_
   case hy13 => (intro w hSw; clear hSw; go_simp; try with_reducible rfl)
   try simp only [yA, yB, yC, Act.put, yD, yE, yF]
   refine wpAnyH_ready (rs := [14]) (by kernel_rfl) (by simp) ?_
   refine AllReadyH.cons rfl (fun K hK => ?_) (AllReadyH.nil)
   rw [if_pos (by rfl)]
   refine wp_alloc_any zeroCo rfl ?_
   intro yp u2 y0 hb yl yt
   have yg := Nat.le_trans hHeld.size yl
   have ho_l2 := Off.li l2 yp (.inr yl)
   replace l2 := l2.below hb
   have ho_m2 := Off.li m2 yp (.inr yl)
   replace m2 := m2.below hb
   refine hK.out _ _ (hHeld.below hb) (fun hHeld => ?_)
   clear hK K hb yl yt
   try simp only [yA, yB, yC, Act.put, yD, yE, yF]
   refine wpAnyH_ready (rs := [15]) (by kernel_rfl) (by simp) ?_
   refine AllReadyH.cons rfl (fun K hK => ?_) (AllReadyH.nil)
   rw [if_pos (by rfl)]
   refine wp_store_all 78 _ _ rfl (cells := (coc (s.c.kp a2 s.L.length k2))) y0 rfl rfl sizeCo rfl (coc_one _) ?_
   intro u3 hn9 hk9
   replace y0 := hn9
   replace l2 := l2.off hk9 (fun q hq => by simp at hq; subst hq; exact ho_l2)
   replace m2 := m2.off hk9 (fun q hq => by simp at hq; subst hq; exact ho_m2)
   refine hK.out _ _ (below_kp hHeld hk9 yg) (fun hHeld => ?_)
   clear hK K hk9 hn9
   try simp only [yA, yB, yC, Act.put, yD, yE, yF]
   refine tkH 16 (v := ?v14) rfl (by kernel_rfl) (fun _ _ _ h => h) (Or.inl ⟨by rfl, ?hy14⟩) hHeld ?_
   case hy14 => (intro w hSw; clear hSw; go_simp; try with_reducible rfl)
   try simp only [yA, yB, yC, Act.put, yD, yE, yF]
   refine tkH 17 (v := ?v15) rfl (by kernel_rfl) (fun _ _ _ h => h) (Or.inl ⟨by rfl, ?hy15⟩) hHeld ?_
   case hy15 => (intro w hSw; clear hSw; go_simp; try with_reducible rfl)
   try simp only [yA, yB, yC, Act.put, yD, yE, yF]
   refine wpAnyH_done (by kernel_rfl) ?_ _
   go_wp2_with fail
   go_meet
   exact ⟨a2, k2, t2, j2, yp, rfl, rfl, y0, l2.mono hcz, m2.mono hcz, hHeld⟩
  ·rw [if_pos (by rfl)]
   refine wp_alloc_any zeroCo rfl ?_
   intro yp u4 y0 hb yl yt
   have yg := Nat.le_trans hHeld.size yl
   refine hK.out _ _ (hHeld.below hb) (fun hHeld => ?_)
   clear hK K hb yl
   try simp only [yA, yB, yC, Act.put, yD, yE, yF]
   refine wpAnyH_ready (rs := [9]) (by kernel_rfl) (by simp) ?_
   refine AllReadyH.cons rfl (fun K hK => ?_) (AllReadyH.nil)
   have hcz := hHeld.size
   go_simp
   go_wp2_with (refine (pR _ (hK0.below hHeld)).mono ?_; rintro r u5 ⟨⟨a2, k2, t2, j2, rfl, l2, m2⟩, hb⟩)
   replace y0 := y0.below hb
   have ho_l2 := Off.li l2 yp (.inl yt)
   have ho_m2 := Off.li m2 yp (.inl yt)
   refine hK.out _ _ (hHeld.below hb) (fun hHeld => ?_)
   clear hK K hb
   refine tkH 10 (v := ?v16) rfl (by kernel_rfl) (fun _ _ _ h => h) (Or.inl ⟨by rfl, ?hy16⟩) hHeld ?_
   case hy16 => (intro w hSw; clear hSw; go_simp; try with_reducible rfl)
   try simp only [yA, yB, yC, Act.put, yD, yE, yF]
   refine tkH 11 (v := ?v17) rfl (by kernel_rfl) (fun _ _ _ h => h) (Or.inl ⟨by rfl, ?hy17⟩) hHeld ?_
   case hy17 => (intro w hSw; clear hSw; go_simp; try with_reducible rfl)
   try simp only [yA, yB, yC, Act.put, yD, yE, yF]
   refine tkH 12 (v := ?v18) rfl (by kernel_rfl) (fun _ _ _ h => h) (Or.inl ⟨by rfl, ?hy18⟩) hHeld ?_
   case hy18 => (intro w hSw; clear hSw; go_simp; try with_reducible rfl)
   try simp only [yA, yB, yC, Act.put, yD, yE, yF]
   refine tkH 13 (v := ?v19) rfl (by kernel_rfl) (fun _ _ _ h => h) (Or.inl ⟨by rfl, ?hy19⟩) hHeld ?_
   case hy19 => (intro w hSw; clear hSw; go_simp; try with_reducible rfl)
   try simp only [yA, yB, yC, Act.put, yD, yE, yF]
   refine wpAnyH_ready (rs := [15]) (by kernel_rfl) (by simp) ?_
   refine AllReadyH.cons rfl (fun K hK => ?_) (AllReadyH.nil)
   rw [if_pos (by rfl)]
   refine wp_store_all 78 _ _ rfl (cells := (coc (s.c.kp a2 s.L.length k2))) y0 rfl rfl sizeCo rfl (coc_one _) ?_
   intro u6 hn9 hk9
   replace y0 := hn9
   replace l2 := l2.off hk9 (fun q hq => by simp at hq; subst hq; exact ho_l2)
   replace m2 := m2.off hk9 (fun q hq => by simp at hq; subst hq; exact ho_m2)
   refine hK.out _ _ (below_kp hHeld hk9 yg) (fun hHeld => ?_)
   clear hK K hk9 hn9
   try simp only [yA, yB, yC, Act.put, yD, yE, yF]
   refine tkH 16 (v := ?v20) rfl (by kernel_rfl) (fun _ _ _ h => h) (Or.inl ⟨by rfl, ?hy20⟩) hHeld ?_
   case hy20 => (intro w hSw; clear hSw; go_simp; try with_reducible rfl)
   try simp only [yA, yB, yC, Act.put, yD, yE, yF]
   refine tkH 17 (v := ?v21) rfl (by kernel_rfl) (fun _ _ _ h => h) (Or.inl ⟨by rfl, ?hy21⟩) hHeld ?_
   case hy21 => (intro w hSw; clear hSw; go_simp; try with_reducible rfl)
   try simp only [yA, yB, yC, Act.put, yD, yE, yF]
   refine wpAnyH_done (by kernel_rfl) ?_ _
   go_wp2_with fail
   go_meet
   exact ⟨a2, k2, t2, j2, yp, rfl, rfl, y0, l2.mono hcz, m2.mono hcz, hHeld⟩
 case rest =>
  obtain ⟨a2, k2, t2, j2, y, rfl, rfl, y0, l2, m2, hb3⟩ := hcut
  rename World => w4
  have hU := hV.below hb3
  have hlt := hV.lt
  clear pR hK0 b6
  go_wp2_with (refine load_blk rfl 78 _ rfl y0 rfl Tryz.underlying78 rfl sizeCo ?_)
  refine (become_ok hU i hi x hx (s.c.kp a2 s.L.length k2) s.L s.t t2 j2 rfl (l2.mono (Nat.zero_le _)) (fun b hb => Off.li l2 b (.inl (hlt b hb))) (m2.mono (Nat.zero_le _)) (fun b hb => Off.li m2 b (.inl (hlt b hb))) (by have := hG.t; have := hG.b; omega)).mono ?_
  rintro r w5 ⟨rfl, ta', tc', h5, k5, hA⟩
  have hbb : Below w.heap.size w w4 := hb.trans (hb3.mono hb.size)
  clear hU hV hG h hlt l2 m2 y0
  go_wp2_with fail
  go_end0
  exact ⟨rfl, a2, k2, ta', tc', h5, (Kp.of_below hbb).trans k5, fun b hb => (hA b hb).imp (fun h => by simp [wbs, h]) (fun h => Nat.le_trans hbb.size h)⟩
end Go.Proofs.YthgfpdidilolgaaGreat
namespace Go.Proofs.YthgfpdidilolgaaGreat
set_option maxRecDepth 10000
open Go.RowKit Go.Sort
set_option linter.unusedVariables false
theorem Lg.mx {α : Type} {f : α → List Value} {k : Nat} {T : TypeId} {B : Nat} {a : Option Addr} {c : Nat} {L : List α} {w : World} (h : Lg f k T B a c L w) : c ≤ 9223372036854775807 := by
 rcases h with ⟨_, rfl, _⟩ | ⟨g, e, hB, h⟩
 ·decide
 ·exact h.len.2
theorem ite_lt {p : Prop} [Decidable p] {a b n : Nat} (ha : a < n) (hb : b < n) : (if p then a else b) < n := by split <;> assumption
theorem pack_lt {c : Co} (h : c.fit) {s : Nat} (hs : s < 8) (hc : c.self = (s : Int)) (L : List Kt) (i : Nat) : (packW c L).num i < 4294967296 := by
 have h0 : (packW c L).fr < 4294967296 := by
  show c.self.toNat < _
  rw [hc]
  show s < _
  omega
 have h1 : (packW c L).ro < 4294967296 := by
  show relO L c.beat.now < _
  unfold relO
  split
  ·decide
  ·omega
 have h2 : (packW c L).rr < 4294967296 := by
  show relR L c.beat.now < _
  unfold relR
  split
  ·decide
  ·exact (pickK L c.beat.now).lt
 have h3 : ∀ j, (packW c L).count j < 4294967296 := fun j => by
  show (if gathB c = true then c.cut else c.count) j < _
  split
  ·exact h.cut j
  ·exact h.count j
 have h4 : (packW c L).rd < 4294967296 := h.count _
 exact ite_lt h0 (ite_lt h.own (ite_lt h.conf.1 (ite_lt h.conf.2.1 (ite_lt h.conf.2.2 (ite_lt (h.mem _) (ite_lt (h3 _) (ite_lt h.pr.1 (ite_lt h.pr.2.1 (ite_lt h.pr.2.2 (ite_lt (h.want _) (ite_lt h.epoch (ite_lt h4 (ite_lt h1 (ite_lt h2 (by decide)))))))))))))))
def newL (i : Nat) (t : ByteArray) (j : Nat) : List Le := ((List.range j).filter fun k => !decide (k = i)).map fun (k : Nat) => ⟨(i : Int), (k : Int), t, false⟩
theorem newL_same (i : Nat) (t : ByteArray) : newL i t (i + 1) = newL i t i := by simp [newL, List.range_succ]
theorem newL_more (i : Nat) (t : ByteArray) (j : Nat) (h : j ≠ i) : newL i t (j + 1) = newL i t j ++ [⟨(i : Int), (j : Int), t, false⟩] := by simp [newL, List.range_succ, h]
theorem newL_len (i : Nat) (t : ByteArray) (j : Nat) : (newL i t j).length ≤ j := by
 have := List.length_filter_le (fun k => !decide (k = i)) (List.range j)
 rw [List.length_range] at this
 simpa [newL] using this
def Ltd (P : Nat) (S : Cs) (g cc u uc : Nat) (ta : Option Addr) (tc : Nat) (W : List Nat) (w w' : World) : Prop := ∃ la lc, Uc P S g cc u uc la lc ta tc w' ∧ Kp W w w'
def wriS (S : Cs) (i : Nat) (x : Pw) : Cs := if x.ok = true then (if newL i x.text S.cs.length = [] then S else ⟨S.wait, S.cs, S.up, putL S.ls (newL i x.text S.cs.length), S.t⟩) else S
theorem uac_ls (wt : Int) (c u l t v : Value) : (uac wt c u l t).setIfInBounds 3 v = uac wt c u v t := rfl
set_option maxHeartbeats 8000000 in
theorem write_ok {P : Nat} {S : Cs} {g cc u uc : Nat} {la : Option Addr} {lc : Nat} {ta : Option Addr} {tc : Nat} {w : World} (h : Uc P S g cc u uc la lc ta tc w) {m : Nat} (hG : Gd m S) (i : Nat) (x : Co × List Kt) (hx : S.cs[i]? = some x) :
  Calls Tryz.prog 64 #[.pointer (some ⟨P, 0, none⟩), .int .i64 (i : Int)] w fun e w' => e = .returned (.tuple #[]) ∧ Ltd P (wriS S i (packW x.1 x.2)) g cc u uc ta tc (wbs P g u ta) w w' := by
 obtain ⟨hi8, hcs, hft, hlz⟩ := hG.c i x hx
 have hmb := hG.b
 have hi : i < S.cs.length := (List.getElem?_eq_some_iff.1 hx).1
 have hn8 : S.cs.length ≤ 8 := by
  refine Decidable.byContradiction fun hne => ?_
  have := (hG.c 8 _ (List.getElem?_eq_getElem (by omega))).1
  omega
 obtain ⟨hkn, hK, hKo⟩ := h.fk x (List.mem_of_getElem? hx)
 have pP := fun u hu => cpack_kp x.1 x.2 i hi8 hcs hft x.1.ka x.1.kc (by omega) u hu
 rw [kp_self x.1 x.2.length hkn] at pP
 have hlt := pack_lt hft hi8 hcs x.2
 obtain ⟨p, ep⟩ : ∃ p, Hid (packW x.1 x.2 = p) := ⟨_, rfl⟩
 rw [ep.out] at pP hlt ⊢
 have pE := enc_ok p hlt
 obtain ⟨n, en⟩ : ∃ n, Hid (S.cs.length = n) := ⟨_, rfl⟩
 have hin : i < n := by rw [← en.out]; exact hi
 have hr := h.fc.at cov_length i x hx
 have c1 : w.cell? ⟨P, 1, none⟩ = some (.slice (some ⟨g, 0, none⟩) n cc) := by rw [← en.out]; exact h.fb.cell 1 _ rfl
 unfold wriS
 clear hlt hi8 hcs hft hlz ep
 cases hok : p.ok with
 | false =>
  rw [if_neg Bool.false_ne_true]
  rw [hok] at pE
  go_enter Tryz.func64, Tryz.ntmps64
  go_wp2_with (refine load_range rfl 78 _ rfl (o := i * 189) (col x.1) hr rfl Tryz.underlying78 rfl sizeCo ?_)
  refine (pP _ hK).mono ?_
  rintro r w1 ⟨rfl, hb⟩
  clear pP hr c1
  go_wp2_with fail
  refine (pE _).mono ?_
  rintro r w2 ⟨rfl, hb2⟩
  clear pE
  go_wp2_with fail
  (try simp only [Exit.inBlock, Exit.then])
  refine bodyPost_ret (results_none rfl _ _ _) rfl ?_
  have hbb := hb.trans (hb2.mono hb.size)
  exact ⟨rfl, la, lc, h.below hbb, Kp.of_below hbb⟩
 | true =>
  rw [if_pos rfl]
  rw [hok] at pE
  obtain ⟨t, et⟩ : ∃ t, Hid (p.text = t) := ⟨_, rfl⟩
  rw [et.out] at pE ⊢
  rw [en.out]
  obtain ⟨X, eX⟩ : ∃ X, Hid ((if newL i t n = [] then S else ⟨S.wait, S.cs, S.up, putL S.ls (newL i t n), S.t⟩ : Cs) = X) := ⟨_, rfl⟩
  rw [eX.out]
  have hn9 : n ≤ 8 := by rw [← en.out]; exact hn8
  clear hok et
  go_enter Tryz.func64, Tryz.ntmps64
  go_wp2_with (refine load_range rfl 78 _ rfl (o := i * 189) (col x.1) hr rfl Tryz.underlying78 rfl sizeCo ?_)
  refine (pP _ hK).mono ?_
  rintro r w1 ⟨rfl, hb⟩
  clear pP hr
  go_wp2_with fail
  refine (pE _).mono ?_
  rintro r w2 ⟨rfl, hb2⟩
  replace hb := hb.trans (hb2.mono hb.size)
  replace c1 : w2.cell? ⟨P, 1, none⟩ = some (.slice (some ⟨g, 0, none⟩) n cc) := (hb.cell (p := ⟨P, 1, none⟩) h.fb.lt).trans c1
  clear pE hb2
  go_wp2_with fail
  obtain ⟨iI, zI, hI, hz0, hsz, hby, hzs⟩ := infoLe
  clear c1
  go_loopw [29, 6] (fun iv lv wr => ∃ (j : Nat) (a : Option Addr) (k : Nat), j ≤ n ∧ iv = .int .i64 j ∧ lv = .slice a (newL i t j).length k ∧ Lg Le.vals 4 97 w.heap.size a k (newL i t j) wr ∧ Below w.heap.size w wr) (fun iv _ _ => n - (intOf iv).toNat)
  case atStart => exact ⟨0, none, 0, by omega, rfl, rfl, Lg.none _ _ _, hb⟩
  case round =>
   clear hb
   obtain ⟨j, a, k, hj, rfl, rfl, hL, hb⟩ := hrel
   have hjl := newL_len i t j
   by_cases hjn : j < n
   ·have j0 : (j : Int) < (n : Int) := by omega
    have j1 : (0 : Int) ≤ (j : Int) := by omega
    by_cases hji : j = i
    ·subst hji
     have e1 : ((j : Int) != (j : Int)) = false := by simp
     go_wp2_with fail
     exact ⟨⟨j + 1, a, k, by omega, by go_num, by rw [newL_same], by rw [newL_same]; exact hL, hb⟩, by simp [intOf]; omega⟩
    ·have e1 : ((j : Int) != (i : Int)) = true := by simp; omega
     obtain ⟨m9, em⟩ : ∃ m, Hid ((newL i t j).length = m) := ⟨_, rfl⟩
     have hm : m9 ≤ 8 := by rw [← em.out]; omega
     rw [em.out]
     have hx9 := (li_box (f := Le.vals) wr (Le.mk (i : Int) (j : Int) t false) 97 0 (Nat.zero_le _))
     have hb9 := below_box wr (.cells (Le.mk (i : Int) (j : Int) t false).arr 97)
     go_wp2_with (first | (refine build_as rfl 97 #[(0, .tmp 36), (1, .tmp 37), (2, .tmp 38)] rfl (C := (Le.mk (i : Int) (j : Int) t false).arr) ?_ ?_; kernel_rfl) | refine box_le rfl _ rfl (Le.mk (i : Int) (j : Int) t false) rfl ?_ | (refine append_ln Le.vals_length rfl _ _ rfl Tryz.underlying27 hI hz0 hsz hby hzs (hL.below hb9) (Nat.le_trans hb.size hb9.size) em.out rfl (M := [Le.mk (i : Int) (j : Int) t false]) (by simp) (hx9.src (P := Tryz.prog) Le.vals_length Le.vals_one Tryz.underlying27 1) rfl (by simp; omega) (by simp [maxLen]; omega) ?_; intro a' k' w' hL' hk' hA'))
     have hb' : Below w.heap.size w w' := (hb.trans (hb9.mono hb.size)).trans (hk'.below (fun b hb1 => (hL.in b hb1).1) (Nat.le_trans hb.size hb9.size))
     exact ⟨⟨j + 1, a', k', by omega, by go_num, by rw [newL_more _ _ _ hji, List.length_append, em.out]; rfl, by rw [newL_more _ _ _ hji]; exact hL', hb'⟩, by simp [intOf]; omega⟩
   ·obtain rfl : j = n := by omega
    clear hI hz0 hsz hby hzs hj
    obtain ⟨N, eN⟩ : ∃ N, Hid (newL i t j = N) := ⟨_, rfl⟩
    rw [eN.out] at hL hjl eX ⊢
    have hU := h.below hb
    cases N with
    | nil =>
     have e : X = S := by rw [← eX.out, if_pos rfl]
     subst e
     go_wp2_with fail
     go_end0
     exact ⟨rfl, la, lc, hU, Kp.of_below hb⟩
    | cons y N =>
     have e : X = ⟨S.wait, S.cs, S.up, putL S.ls (y :: N), S.t⟩ := by rw [← eX.out, if_neg (by simp)]
     subst e
     obtain ⟨m9, em⟩ : ∃ m, Hid ((y :: N).length = m) := ⟨_, rfl⟩
     have hm : 0 < m9 := by rw [← em.out]; simp
     have hm2 : decide ((m9 : Int) > 0) = true := by rw [decide_eq_true_eq]; omega
     obtain ⟨q, eq⟩ : ∃ q, Hid (S.ls.length = q) := ⟨_, rfl⟩
     have c3 : wr.cell? ⟨P, 3, none⟩ = some (.slice la q lc) := by rw [← eq.out]; exact hU.fb.cell 3 _ rfl
     have pU := lput_ok S.ls (y :: N) la a lc k (by have := hG.l; omega) (by omega) h.flc.1 (by rw [em.out]; have := hL.cap; rw [em.out] at this; exact this) wr hU.fl (hL.li.mono (Nat.zero_le _))
     rw [em.out, eq.out] at pU
     rw [em.out]
     clear hjl eX
     go_wp2_with fail
     refine pU.mono ?_
     rintro r w3 ⟨⟨ma, mc, rfl, hM⟩, hb3⟩
     have h3 := hU.below hb3
     clear pU c3
     go_wp2_with (refine store_one rfl 27 _ _ rfl (off := 3) (.slice ma (putL S.ls (y :: N)).length mc) h3.fb rfl rfl rfl rfl (by kernel_rfl) (show 3 + 1 ≤ 5 by decide) ?_; intro w4 b4 k4)
     go_end0
     rw [uac_ls] at b4
     exact ⟨rfl, ma, mc, h3.setLs (putL S.ls (y :: N)) k4 b4 (hM.li.mono (Nat.zero_le _)) ⟨hM.cap, hM.mx⟩ (fun b hb1 => Off.lg hM b (.inl (hU.lt b hb1))), ((Kp.of_below hb).trans (Kp.of_below hb3)).trans (k4.mono (by simp [wbs]))⟩
end Go.Proofs.YthgfpdidilolgaaGreat
