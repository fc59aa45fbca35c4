/-
  Of the texts beneath these laws, in their order: GaD.
  Each theorem says its own conditions.
-/
import Derived.Test.YthgfpdidilolgaaGreatZ00
import Derived.Test.YthgfpdidilolgaaGreatZ17
namespace Go.Proofs.YthgfpdidilolgaaGreat
set_option maxRecDepth 10000
set_option linter.unusedSimpArgs false
open Go.RowKit Go.Sort
set_option linter.unusedVariables false
theorem oth1_ok (s : Int) (d : Nat) (X : Nat) (w : World) (hX : Blk X #[.int .i64 s] 3 w) : Calls Tryz.prog 205 #[.int .i64 (d : Int), .pointer (some ⟨X, 0, none⟩)] w fun e w' => e = .returned (.bool (decide ((d : Int) = s))) ∧ Below w.heap.size w w' := by
 obtain ⟨t, ht⟩ : ∃ t, decide ((d : Int) = s) = t := ⟨_, rfl⟩
 rw [ht]
 have h1 : ((d : Int) == s) = t := by rw [← ht, Bool.eq_iff_iff, beq_iff_eq, decide_eq_true_iff]
 have q2 : w.cell? ⟨X, 0, none⟩ = some (.int .i64 s) := hX.cell 0 _ rfl
 clear ht hX
 go_enter Tryz.func205, Tryz.ntmps205
 go_wp2_with fail
 go_ret
 exact ⟨rfl, Below.refl _ _⟩
theorem ent_oth1 : Enters 205 := fun args w => by kernel_rfl
def Oths (m : Nat → Nat) (s : Int) (B : Nat) (e : Ending) (w' : World) : Prop := ∃ a c, e = .returned (.slice a (oth m s).length c) ∧ Li nv B a (oth m s) w'
theorem others_ok (m : Nat → Nat) (s : Int) (w : World) : Calls Tryz.prog 165 #[.agg (mbc m), .int .i64 s] w fun e w' => Oths m s w.heap.size e w' ∧ Below w.heap.size w w' := by
 obtain ⟨a0, a1, hB⟩ := two_blk (T0 := 55) (T1 := 3) (C0 := mbc m) (C1 := #[.int .i64 s]) (w := w) rfl
 have hmf : ∀ (fn : Fn) (first cap : Array Value) (w : World), (Instr.makeFunc fn first cap).run Tryz.prog w = .ok (.func fn first cap) w := fun _ _ _ _ => rfl
 have hS : w.heap.size + 1 + 1 = ((w.alloc (.cells (mbc m) 55)).alloc (.cells #[.int .i64 s] 3)).heap.size := by simp
 go_enter Tryz.func165, Tryz.ntmps165
 go_upto_region 1 with fail
 generalize (w.alloc (Obj.cells (mbc m) 55)).alloc (Obj.cells #[.int .i64 s] 3) = W at a0 a1 hB hS ⊢
 go_wp2_with (refine load_blk rfl 55 _ rfl a0 rfl Tryz.underlying55 rfl sizeMb ?_)
 refine (list_lg m _).mono ?_
 rintro r w1 ⟨⟨la, lc, rfl, hG⟩, hb⟩
 replace a1 := a1.below hb
 replace hB := hB.trans (hb.mono hB.size)
 clear hb a0
 have pd := deln_ok 205 (.pointer (some ⟨w.heap.size + 1, 0, none⟩)) (fun d => decide ((d : Int) = s)) ent_oth1 (fun u => Blk (w.heap.size + 1) #[.int .i64 s] 3 u) (fun _ _ h hb => h.below hb) (lst m) (fun d _ u h => oth1_ok s d _ u h) W.heap.size la lc
  (fun u u' h hk => h.kp hk (fun hm => by have := hG.in _ hm; omega)) w1 hG a1
 have hin := hG.in
 generalize (lst m).length = n at *
 clear hG
 go_wp2_with fail
 refine pd.mono ?_
 rintro r w2 ⟨⟨rfl, hG⟩, hk⟩
 have hB2 : Below w.heap.size w w2 := hB.trans (hk.below (fun k hm => by have := hin k hm; omega) hB.size)
 have HO : Oths m s w.heap.size (.returned (.slice la (keepN (fun d => decide ((d : Int) = s)) (lst m)).length lc)) w2 := ⟨la, lc, rfl, hG.li.mono (by omega)⟩
 clear pd hG hk hB hin a1
 generalize (keepN (fun d => decide ((d : Int) = s)) (lst m)).length = k at *
 go_wp2_with fail
 go_ret
 exact ⟨HO, hB2⟩
set_option maxHeartbeats 1000000 in
theorem matters_ok (c : Co) (d : Nat) (hd : d < 8) (w : World) : Calls Tryz.prog 166 #[.agg (coc c), .int .i64 (d : Int)] w fun e w' => e = .returned (.bool (matB c d)) ∧ Below w.heap.size w w' := by
 have a0 := blk_new w (coc c) 78
 have hB : Below w.heap.size w (w.alloc (.cells (coc c) 78)) := below_box w _
 obtain ⟨t, ht⟩ : ∃ t, matB c d = t := ⟨_, rfl⟩
 rw [ht]
 have h1 : (((c.peers d).inc : Int) == (c.want d : Int)) = t := by rw [← ht, matB, Bool.eq_iff_iff, beq_iff_eq, decide_eq_true_iff]; omega
 have d1 : (0 : Int) ≤ (d : Int) := by omega
 have d2 : (d : Int) < 8 := by omega
 go_enter Tryz.func166, Tryz.ntmps166
 go_upto_region 1 with fail
 generalize w.alloc (Obj.cells (coc c) 78) = W at a0 hB ⊢
 have q0 := a0.drew.cell _ _ (c.get_pinc d hd)
 have q1 := a0.drew.cell _ _ (c.get_want d hd)
 replace hB := hB.drew
 clear ht a0
 go_region
 go_wp2_with fail
 go_ret
 exact ⟨rfl, hB⟩
set_option maxHeartbeats 1000000 in
theorem all1_ok (c : Co) (x : Pe) (C : Nat) (w : World) (hC : Blk C (coc c) 78 w) : Calls Tryz.prog 164 #[.agg x.arr, .pointer (some ⟨C, 0, none⟩)] w fun e w' => e = .returned (.bool (Idn.same x.pr c.pr)) ∧ Below w.heap.size w w' := by
 have a0 := blk_new w x.arr 75
 have hB : Below w.heap.size w (w.alloc (.cells x.arr 75)) := below_box w _
 replace hC := hC.below hB
 obtain ⟨t, ht⟩ : ∃ t, Idn.same x.pr c.pr = t := ⟨_, rfl⟩
 rw [ht]
 have kq : ∀ w, (binOp .eql 51 (.agg x.pr.vals.toArray) (.agg c.pr.vals.toArray)).run Tryz.prog w = .ok (.bool t) w := eqlIdn x.pr c.pr t ht
 clear ht
 go_enter Tryz.func164, Tryz.ntmps164
 go_upto_region 1 with fail
 generalize w.alloc (Obj.cells x.arr 75) = W at a0 hB hC ⊢
 go_wp2_with (first | refine load_part rfl 51 _ rfl (o := 4) a0 rfl x.pr.vals x.p_pr Tryz.underlying51 rfl sizeIdn ?_ | refine load_part rfl 51 _ rfl (o := 40) hC rfl c.pr.vals c.p_pr Tryz.underlying51 rfl sizeIdn ?_)
 go_ret
 exact ⟨rfl, hB⟩
set_option maxHeartbeats 1000000 in
theorem done1_ok (c : Co) (x : Pe) (C : Nat) (w : World) (hC : Blk C (coc c) 78 w) : Calls Tryz.prog 168 #[.agg x.arr, .pointer (some ⟨C, 0, none⟩)] w fun e w' => e = .returned (.bool (doneQ c x)) ∧ Below w.heap.size w w' := by
 have a0 := blk_new w x.arr 75
 have hB : Below w.heap.size w (w.alloc (.cells x.arr 75)) := below_box w _
 replace hC := hC.below hB
 obtain ⟨R, HR⟩ : ∃ t, Hid (doneQ c x = t) := ⟨_, rfl⟩
 rw [HR.out]
 obtain ⟨t, ht⟩ : ∃ t, Idn.same x.pr c.pr = t := ⟨_, rfl⟩
 obtain ⟨v, hv⟩ : ∃ t, Idn.same x.conf c.pr = t := ⟨_, rfl⟩
 have kq : ∀ w, (binOp .eql 51 (.agg x.pr.vals.toArray) (.agg c.pr.vals.toArray)).run Tryz.prog w = .ok (.bool t) w := eqlIdn x.pr c.pr t ht
 have kv : ∀ w, (binOp .eql 51 (.agg x.conf.vals.toArray) (.agg c.pr.vals.toArray)).run Tryz.prog w = .ok (.bool v) w := eqlIdn x.conf c.pr v hv
 obtain ⟨r, hr⟩ : ∃ r, x.rdy = r := ⟨_, rfl⟩
 have e : R = ((t && r) || v) := by rw [← HR.out, doneQ, ht, hv, hr]
 clear ht hv HR
 go_enter Tryz.func168, Tryz.ntmps168
 go_upto_region 1 with fail
 generalize w.alloc (Obj.cells x.arr 75) = W at a0 hB hC ⊢
 have c0 := a0.cell 15 (.bool x.rdy) rfl
 rw [hr] at c0
 clear hr
 cases t with
 | false =>
  obtain rfl : R = v := by rw [e]; rfl
  clear e
  go_wp2_with (first | refine load_part rfl 51 _ rfl (o := 4) a0 rfl x.pr.vals x.p_pr Tryz.underlying51 rfl sizeIdn ?_ | refine load_part rfl 51 _ rfl (o := 40) hC rfl c.pr.vals c.p_pr Tryz.underlying51 rfl sizeIdn ?_ | refine load_wpart rfl 51 _ rfl (o := 1) a0 rfl x.conf.vals x.p_conf Tryz.underlying51 rfl sizeIdn ?_ | refine load_wpart rfl 51 _ rfl (o := 40) hC rfl c.pr.vals c.p_pr Tryz.underlying51 rfl sizeIdn ?_)
  go_ret
  exact ⟨rfl, hB⟩
 | true =>
  cases r with
  | true =>
   obtain rfl : R = true := by rw [e]; rfl
   clear e
   go_wp2_with (first | refine load_part rfl 51 _ rfl (o := 4) a0 rfl x.pr.vals x.p_pr Tryz.underlying51 rfl sizeIdn ?_ | refine load_part rfl 51 _ rfl (o := 40) hC rfl c.pr.vals c.p_pr Tryz.underlying51 rfl sizeIdn ?_)
   go_ret
   exact ⟨rfl, hB⟩
  | false =>
   obtain rfl : R = v := by rw [e]; rfl
   clear e
   go_wp2_with (first | refine load_part rfl 51 _ rfl (o := 4) a0 rfl x.pr.vals x.p_pr Tryz.underlying51 rfl sizeIdn ?_ | refine load_part rfl 51 _ rfl (o := 40) hC rfl c.pr.vals c.p_pr Tryz.underlying51 rfl sizeIdn ?_ | refine load_wpart rfl 51 _ rfl (o := 1) a0 rfl x.conf.vals x.p_conf Tryz.underlying51 rfl sizeIdn ?_ | refine load_wpart rfl 51 _ rfl (o := 40) hC rfl c.pr.vals c.p_pr Tryz.underlying51 rfl sizeIdn ?_)
   go_ret
   exact ⟨rfl, hB⟩
theorem ent_each1 : Enters 203 := fun args w => by kernel_rfl
set_option maxHeartbeats 2000000 in
theorem each1_all (c : Co) (d : Nat) (hd : d < 8) (C G C' : Nat) (w : World) (hC : Blk C (coc c) 78 w) (hG : Blk G #[.func (.func 164) #[] #[.pointer (some ⟨C', 0, none⟩)]] 213 w) (hC' : Blk C' (coc c) 78 w) :
  Calls Tryz.prog 203 #[.int .i64 (d : Int), .pointer (some ⟨C, 0, none⟩), .pointer (some ⟨G, 0, none⟩)] w fun e w' => e = .returned (.bool (!(matB c d && Idn.same (c.peers d).pr c.pr))) ∧ Below w.heap.size w w' := by
 obtain ⟨t, ht⟩ : ∃ t, matB c d = t := ⟨_, rfl⟩
 obtain ⟨v, hv⟩ : ∃ v, Idn.same (c.peers d).pr c.pr = v := ⟨_, rfl⟩
 have pm := matters_ok c d hd
 have pf := fun u h => all1_ok c (c.peers d) C' u h
 rw [ht] at pm
 rw [hv] at pf
 have d1 : (0 : Int) ≤ (d : Int) := by omega
 have d2 : (d : Int) < 8 := by omega
 rw [ht, hv]
 clear ht hv
 have hB0 : Below w.heap.size w w.drew := (Below.refl _ _).drew
 go_enter Tryz.func203, Tryz.ntmps203
 go_upto_region 1 with fail
 cases t with
 | true =>
  refine wp_region_held_drew (S := fun w' => Blk C (coc c) 78 w' ∧ Blk G #[.func (.func 164) #[] #[.pointer (some ⟨C', 0, none⟩)]] 213 w' ∧ Blk C' (coc c) 78 w') (by kernel_rfl) ⟨hC.drew, hG.drew, hC'.drew⟩ (fun hHeld => ?_)
  refine' tkH 0 (v := _) rfl (by kernel_rfl) (fun _ _ _ h => h) (yieldsIf_load_mid (by rfl) _ _ rfl C 0 rfl (col c) _ ?hS9 Tryz.underlying78 rfl sizeCo) hHeld ?_
  case hS9 => exact fun w h => h.1.whole
  try simp only [yy]
  refine tkQ 1 hHeld ?_
  try simp only [yy]
  refine rd1 2 (fun K hK => ?_)
  go_simp
  go_wp2_with (refine (pm _).mono ?_; rintro r u1 ⟨rfl, hb⟩)
  have hB1 := hB0.trans (hb.mono hB0.size)
  refine hK.out _ _ ⟨hHeld.1.below hb, hHeld.2.1.below hb, hHeld.2.2.below hb⟩ (fun hHeld => ?_)
  clear hK K hb hB0
  refine tkQ 3 hHeld ?_
  try simp only [yy]
  refine tkQ 4 hHeld ?_
  try simp only [yy]
  refine tkH 5 (v := ?v13) rfl (by kernel_rfl) (fun _ _ _ h => h) (Or.inl ⟨by rfl, ?hy13⟩) hHeld ?_
  case hy13 => (intro w hSw; have hc := hSw.2.1.cell 0 (.func (.func 164) #[] #[.pointer (some ⟨C', 0, none⟩)]) rfl; clear hSw; go_simp; try with_reducible rfl)
  try simp only [yy]
  refine tkQ 6 hHeld ?_
  try simp only [yy]
  refine tkQ 7 hHeld ?_
  try simp only [yy]
  refine tkQ 8 hHeld ?_
  try simp only [yy]
  refine' tkH 9 (v := _) rfl (by kernel_rfl) (fun _ _ _ h => h) (yieldsIf_load_mid (by rfl) _ _ rfl C (60 + d * 16) rfl (c.peers d).vals _ ?hS17 Tryz.underlying75 rfl sizePe) hHeld ?_
  case hS17 => exact fun w h => h.1.range _ _ (c.p_peer d hd)
  try simp only [yy]
  refine rd1 10 (fun K hK => ?_)
  go_simp
  go_wp2_with (refine (pf _ hHeld.2.2).mono ?_; rintro r u2 ⟨rfl, hb⟩)
  have hB2 := hB1.trans (hb.mono hB1.size)
  refine hK.out _ _ ⟨hHeld.1.below hb, hHeld.2.1.below hb, hHeld.2.2.below hb⟩ (fun hHeld => ?_)
  clear hK K hb hB1
  refine tkQ 11 hHeld ?_
  try simp only [yy]
  refine tkQ 12 hHeld ?_
  try simp only [yy]
  refine tkQ 13 hHeld ?_
  try simp only [yy]
  refine wpAnyH_done (by kernel_rfl) ?_ _
  go_wp2_with fail
  go_ret
  exact ⟨rfl, hB2⟩
 | false =>
  refine wp_region_held_drew (S := fun w' => Blk C (coc c) 78 w' ∧ Blk G #[.func (.func 164) #[] #[.pointer (some ⟨C', 0, none⟩)]] 213 w' ∧ Blk C' (coc c) 78 w') (by kernel_rfl) ⟨hC.drew, hG.drew, hC'.drew⟩ (fun hHeld => ?_)
  refine' tkH 0 (v := _) rfl (by kernel_rfl) (fun _ _ _ h => h) (yieldsIf_load_mid (by rfl) _ _ rfl C 0 rfl (col c) _ ?hS21 Tryz.underlying78 rfl sizeCo) hHeld ?_
  case hS21 => exact fun w h => h.1.whole
  try simp only [yy]
  refine tkQ 1 hHeld ?_
  try simp only [yy]
  refine rd1 2 (fun K hK => ?_)
  go_simp
  go_wp2_with (refine (pm _).mono ?_; rintro r u1 ⟨rfl, hb⟩)
  have hB1 := hB0.trans (hb.mono hB0.size)
  refine hK.out _ _ ⟨hHeld.1.below hb, hHeld.2.1.below hb, hHeld.2.2.below hb⟩ (fun hHeld => ?_)
  clear hK K hb hB0
  refine tkQ 3 hHeld ?_
  try simp only [yy]
  refine tkQ 4 hHeld ?_
  try simp only [yy]
  refine tkU 5 hHeld ?_
  try simp only [yy]
  refine tkU 6 hHeld ?_
  try simp only [yy]
  refine tkU 7 hHeld ?_
  try simp only [yy]
  refine tkU 8 hHeld ?_
  try simp only [yy]
  refine tkU 9 hHeld ?_
  try simp only [yy]
  refine tkU 10 hHeld ?_
  try simp only [yy]
  refine tkU 11 hHeld ?_
  try simp only [yy]
  refine tkQ 12 hHeld ?_
  try simp only [yy]
  refine tkQ 13 hHeld ?_
  try simp only [yy]
  refine wpAnyH_done (by kernel_rfl) ?_ _
  go_wp2_with fail
  go_ret
  exact ⟨rfl, hB1⟩
theorem ofEach_all (c : Co) (C' : Nat) (w : World) (hC' : Blk C' (coc c) 78 w) :
  Calls Tryz.prog 163 #[.agg (coc c), .func (.func 164) #[] #[.pointer (some ⟨C', 0, none⟩)]] w fun e w' => e = .returned (.bool (eachB c fun x => Idn.same x.pr c.pr)) ∧ Below w.heap.size w w' := by
 obtain ⟨a0, a1, hB⟩ := two_blk (T0 := 78) (T1 := 213) (C0 := coc c) (C1 := #[.func (.func 164) #[] #[.pointer (some ⟨C', 0, none⟩)]]) (w := w) rfl
 have a2 := hC'.below hB
 have hmf : ∀ (fn : Fn) (first cap : Array Value) (w : World), (Instr.makeFunc fn first cap).run Tryz.prog w = .ok (.func fn first cap) w := fun _ _ _ _ => rfl
 obtain ⟨R, hR⟩ : ∃ R, (oth c.want c.self).any (fun d => !(matB c d && Idn.same (c.peers d).pr c.pr)) = R := ⟨_, rfl⟩
 have e : eachB c (fun x => Idn.same x.pr c.pr) = !R := by rw [← hR, eachB, List.all_eq_not_any_not]
 rw [e]
 go_enter Tryz.func163, Tryz.ntmps163
 go_upto_region 1 with fail
 generalize (w.alloc (Obj.cells (coc c) 78)).alloc (Obj.cells #[.func (.func 164) #[] #[.pointer (some ⟨C', 0, none⟩)]] 213) = W at a0 a1 a2 hB ⊢
 have c0 := a0.cell 0 (.int .i64 c.self) rfl
 go_wp2_with (refine load_part rfl 55 _ rfl (o := 43) a0 rfl (row8 c.want) c.p_want Tryz.underlying55 rfl sizeMb ?_)
 refine (others_ok c.want c.self _).mono ?_
 rintro r w1 ⟨⟨la, lc, rfl, hL⟩, hb⟩
 replace a0 := a0.below hb
 replace a1 := a1.below hb
 replace a2 := a2.below hb
 replace hB := hB.trans (hb.mono hB.size)
 clear hb c0
 have pc := con2_ok 203 (.pointer (some ⟨w.heap.size, 0, none⟩)) (.pointer (some ⟨w.heap.size + 1, 0, none⟩)) (fun d => !(matB c d && Idn.same (c.peers d).pr c.pr)) ent_each1
  (fun u => Blk w.heap.size (coc c) 78 u ∧ Blk (w.heap.size + 1) #[.func (.func 164) #[] #[.pointer (some ⟨C', 0, none⟩)]] 213 u ∧ Blk C' (coc c) 78 u) (fun _ _ h hb => ⟨h.1.below hb, h.2.1.below hb, h.2.2.below hb⟩) (oth c.want c.self)
  (fun d hd u h => each1_all c d ((mem_oth _ _ _).1 hd).1 _ _ C' u h.1 h.2.1 h.2.2) la lc (by have := oth_len c.want c.self; omega) w1 (hL.mono (Nat.zero_le _)) ⟨a0, a1, a2⟩
 rw [hR] at pc
 generalize (oth c.want c.self).length = n at *
 clear hL a0 a1 a2 hR e
 go_wp2_with fail
 refine pc.mono ?_
 rintro r w2 ⟨rfl, hb⟩
 replace hB := hB.trans (hb.mono hB.size)
 clear hb pc
 go_wp2_with fail
 go_ret
 exact ⟨rfl, hB⟩
set_option maxHeartbeats 2000000 in
theorem each1_done (c : Co) (d : Nat) (hd : d < 8) (C G C' : Nat) (w : World) (hC : Blk C (coc c) 78 w) (hG : Blk G #[.func (.func 168) #[] #[.pointer (some ⟨C', 0, none⟩)]] 213 w) (hC' : Blk C' (coc c) 78 w) :
  Calls Tryz.prog 203 #[.int .i64 (d : Int), .pointer (some ⟨C, 0, none⟩), .pointer (some ⟨G, 0, none⟩)] w fun e w' => e = .returned (.bool (!(matB c d && doneQ c (c.peers d)))) ∧ Below w.heap.size w w' := by
 obtain ⟨t, ht⟩ : ∃ t, matB c d = t := ⟨_, rfl⟩
 obtain ⟨v, hv⟩ : ∃ v, doneQ c (c.peers d) = v := ⟨_, rfl⟩
 have pm := matters_ok c d hd
 have pf := fun u h => done1_ok c (c.peers d) C' u h
 rw [ht] at pm
 rw [hv] at pf
 have d1 : (0 : Int) ≤ (d : Int) := by omega
 have d2 : (d : Int) < 8 := by omega
 rw [ht, hv]
 clear ht hv
 have hB0 : Below w.heap.size w w.drew := (Below.refl _ _).drew
 go_enter Tryz.func203, Tryz.ntmps203
 go_upto_region 1 with fail
 cases t with
 | true =>
  refine wp_region_held_drew (S := fun w' => Blk C (coc c) 78 w' ∧ Blk G #[.func (.func 168) #[] #[.pointer (some ⟨C', 0, none⟩)]] 213 w' ∧ Blk C' (coc c) 78 w') (by kernel_rfl) ⟨hC.drew, hG.drew, hC'.drew⟩ (fun hHeld => ?_)
  refine' tkH 0 (v := _) rfl (by kernel_rfl) (fun _ _ _ h => h) (yieldsIf_load_mid (by rfl) _ _ rfl C 0 rfl (col c) _ ?hS34 Tryz.underlying78 rfl sizeCo) hHeld ?_
  case hS34 => exact fun w h => h.1.whole
  try simp only [yy]
  refine tkQ 1 hHeld ?_
  try simp only [yy]
  refine rd1 2 (fun K hK => ?_)
  go_simp
  go_wp2_with (refine (pm _).mono ?_; rintro r u1 ⟨rfl, hb⟩)
  have hB1 := hB0.trans (hb.mono hB0.size)
  refine hK.out _ _ ⟨hHeld.1.below hb, hHeld.2.1.below hb, hHeld.2.2.below hb⟩ (fun hHeld => ?_)
  clear hK K hb hB0
  refine tkQ 3 hHeld ?_
  try simp only [yy]
  refine tkQ 4 hHeld ?_
  try simp only [yy]
  refine tkH 5 (v := ?v38) rfl (by kernel_rfl) (fun _ _ _ h => h) (Or.inl ⟨by rfl, ?hy38⟩) hHeld ?_
  case hy38 => (intro w hSw; have hc := hSw.2.1.cell 0 (.func (.func 168) #[] #[.pointer (some ⟨C', 0, none⟩)]) rfl; clear hSw; go_simp; try with_reducible rfl)
  try simp only [yy]
  refine tkQ 6 hHeld ?_
  try simp only [yy]
  refine tkQ 7 hHeld ?_
  try simp only [yy]
  refine tkQ 8 hHeld ?_
  try simp only [yy]
  refine' tkH 9 (v := _) rfl (by kernel_rfl) (fun _ _ _ h => h) (yieldsIf_load_mid (by rfl) _ _ rfl C (60 + d * 16) rfl (c.peers d).vals _ ?hS42 Tryz.underlying75 rfl sizePe) hHeld ?_
  case hS42 => exact fun w h => h.1.range _ _ (c.p_peer d hd)
  try simp only [yy]
  refine rd1 10 (fun K hK => ?_)
  go_simp
  go_wp2_with (refine (pf _ hHeld.2.2).mono ?_; rintro r u2 ⟨rfl, hb⟩)
  have hB2 := hB1.trans (hb.mono hB1.size)
  refine hK.out _ _ ⟨hHeld.1.below hb, hHeld.2.1.below hb, hHeld.2.2.below hb⟩ (fun hHeld => ?_)
  clear hK K hb hB1
  refine tkQ 11 hHeld ?_
  try simp only [yy]
  refine tkQ 12 hHeld ?_
  try simp only [yy]
  refine tkQ 13 hHeld ?_
  try simp only [yy]
  refine wpAnyH_done (by kernel_rfl) ?_ _
  go_wp2_with fail
  go_ret
  exact ⟨rfl, hB2⟩
 | false =>
  refine wp_region_held_drew (S := fun w' => Blk C (coc c) 78 w' ∧ Blk G #[.func (.func 168) #[] #[.pointer (some ⟨C', 0, none⟩)]] 213 w' ∧ Blk C' (coc c) 78 w') (by kernel_rfl) ⟨hC.drew, hG.drew, hC'.drew⟩ (fun hHeld => ?_)
  refine' tkH 0 (v := _) rfl (by kernel_rfl) (fun _ _ _ h => h) (yieldsIf_load_mid (by rfl) _ _ rfl C 0 rfl (col c) _ ?hS46 Tryz.underlying78 rfl sizeCo) hHeld ?_
  case hS46 => exact fun w h => h.1.whole
  try simp only [yy]
  refine tkQ 1 hHeld ?_
  try simp only [yy]
  refine rd1 2 (fun K hK => ?_)
  go_simp
  go_wp2_with (refine (pm _).mono ?_; rintro r u1 ⟨rfl, hb⟩)
  have hB1 := hB0.trans (hb.mono hB0.size)
  refine hK.out _ _ ⟨hHeld.1.below hb, hHeld.2.1.below hb, hHeld.2.2.below hb⟩ (fun hHeld => ?_)
  clear hK K hb hB0
  refine tkQ 3 hHeld ?_
  try simp only [yy]
  refine tkQ 4 hHeld ?_
  try simp only [yy]
  refine tkU 5 hHeld ?_
  try simp only [yy]
  refine tkU 6 hHeld ?_
  try simp only [yy]
  refine tkU 7 hHeld ?_
  try simp only [yy]
  refine tkU 8 hHeld ?_
  try simp only [yy]
  refine tkU 9 hHeld ?_
  try simp only [yy]
  refine tkU 10 hHeld ?_
  try simp only [yy]
  refine tkU 11 hHeld ?_
  try simp only [yy]
  refine tkQ 12 hHeld ?_
  try simp only [yy]
  refine tkQ 13 hHeld ?_
  try simp only [yy]
  refine wpAnyH_done (by kernel_rfl) ?_ _
  go_wp2_with fail
  go_ret
  exact ⟨rfl, hB1⟩
theorem ofEach_done (c : Co) (C' : Nat) (w : World) (hC' : Blk C' (coc c) 78 w) :
  Calls Tryz.prog 163 #[.agg (coc c), .func (.func 168) #[] #[.pointer (some ⟨C', 0, none⟩)]] w fun e w' => e = .returned (.bool (eachB c fun x => doneQ c x)) ∧ Below w.heap.size w w' := by
 obtain ⟨a0, a1, hB⟩ := two_blk (T0 := 78) (T1 := 213) (C0 := coc c) (C1 := #[.func (.func 168) #[] #[.pointer (some ⟨C', 0, none⟩)]]) (w := w) rfl
 have a2 := hC'.below hB
 have hmf : ∀ (fn : Fn) (first cap : Array Value) (w : World), (Instr.makeFunc fn first cap).run Tryz.prog w = .ok (.func fn first cap) w := fun _ _ _ _ => rfl
 obtain ⟨R, hR⟩ : ∃ R, (oth c.want c.self).any (fun d => !(matB c d && doneQ c (c.peers d))) = R := ⟨_, rfl⟩
 have e : eachB c (fun x => doneQ c x) = !R := by rw [← hR, eachB, List.all_eq_not_any_not]
 rw [e]
 go_enter Tryz.func163, Tryz.ntmps163
 go_upto_region 1 with fail
 generalize (w.alloc (Obj.cells (coc c) 78)).alloc (Obj.cells #[.func (.func 168) #[] #[.pointer (some ⟨C', 0, none⟩)]] 213) = W at a0 a1 a2 hB ⊢
 have c0 := a0.cell 0 (.int .i64 c.self) rfl
 go_wp2_with (refine load_part rfl 55 _ rfl (o := 43) a0 rfl (row8 c.want) c.p_want Tryz.underlying55 rfl sizeMb ?_)
 refine (others_ok c.want c.self _).mono ?_
 rintro r w1 ⟨⟨la, lc, rfl, hL⟩, hb⟩
 replace a0 := a0.below hb
 replace a1 := a1.below hb
 replace a2 := a2.below hb
 replace hB := hB.trans (hb.mono hB.size)
 clear hb c0
 have pc := con2_ok 203 (.pointer (some ⟨w.heap.size, 0, none⟩)) (.pointer (some ⟨w.heap.size + 1, 0, none⟩)) (fun d => !(matB c d && doneQ c (c.peers d))) ent_each1
  (fun u => Blk w.heap.size (coc c) 78 u ∧ Blk (w.heap.size + 1) #[.func (.func 168) #[] #[.pointer (some ⟨C', 0, none⟩)]] 213 u ∧ Blk C' (coc c) 78 u) (fun _ _ h hb => ⟨h.1.below hb, h.2.1.below hb, h.2.2.below hb⟩) (oth c.want c.self)
  (fun d hd u h => each1_done c d ((mem_oth _ _ _).1 hd).1 _ _ C' u h.1 h.2.1 h.2.2) la lc (by have := oth_len c.want c.self; omega) w1 (hL.mono (Nat.zero_le _)) ⟨a0, a1, a2⟩
 rw [hR] at pc
 generalize (oth c.want c.self).length = n at *
 clear hL a0 a1 a2 hR e
 go_wp2_with fail
 refine pc.mono ?_
 rintro r w2 ⟨rfl, hb⟩
 replace hB := hB.trans (hb.mono hB.size)
 clear hb pc
 go_wp2_with fail
 go_ret
 exact ⟨rfl, hB⟩
theorem all_ok (c : Co) (w : World) : Calls Tryz.prog 131 #[.agg (coc c)] w fun e w' => e = .returned (.bool (allB c)) ∧ Below w.heap.size w w' := by
 have a0 := blk_new w (coc c) 78
 have hB : Below w.heap.size w (w.alloc (.cells (coc c) 78)) := below_box w _
 have hmf : ∀ (fn : Fn) (first cap : Array Value) (w : World), (Instr.makeFunc fn first cap).run Tryz.prog w = .ok (.func fn first cap) w := fun _ _ _ _ => rfl
 have pe := fun u h => ofEach_all c w.heap.size u h
 go_enter Tryz.func131, Tryz.ntmps131
 go_upto_region 1 with fail
 generalize w.alloc (Obj.cells (coc c) 78) = W at a0 hB ⊢
 go_wp2_with (refine load_blk rfl 78 _ rfl a0 rfl Tryz.underlying78 rfl sizeCo ?_)
 refine (pe _ a0).mono ?_
 rintro r w2 ⟨rfl, hb⟩
 replace hB := hB.trans (hb.mono hB.size)
 clear hb pe a0
 go_wp2_with fail
 go_ret
 exact ⟨rfl, hB⟩
theorem done_ok (c : Co) (w : World) : Calls Tryz.prog 134 #[.agg (coc c)] w fun e w' => e = .returned (.bool (doneB c)) ∧ Below w.heap.size w w' := by
 have a0 := blk_new w (coc c) 78
 have hB : Below w.heap.size w (w.alloc (.cells (coc c) 78)) := below_box w _
 have hmf : ∀ (fn : Fn) (first cap : Array Value) (w : World), (Instr.makeFunc fn first cap).run Tryz.prog w = .ok (.func fn first cap) w := fun _ _ _ _ => rfl
 have pe := fun u h => ofEach_done c w.heap.size u h
 go_enter Tryz.func134, Tryz.ntmps134
 go_upto_region 1 with fail
 generalize w.alloc (Obj.cells (coc c) 78) = W at a0 hB ⊢
 go_wp2_with (refine load_blk rfl 78 _ rfl a0 rfl Tryz.underlying78 rfl sizeCo ?_)
 refine (pe _ a0).mono ?_
 rintro r w2 ⟨rfl, hb⟩
 replace hB := hB.trans (hb.mono hB.size)
 clear hb pe a0
 go_wp2_with fail
 go_ret
 exact ⟨rfl, hB⟩
end Go.Proofs.YthgfpdidilolgaaGreat
