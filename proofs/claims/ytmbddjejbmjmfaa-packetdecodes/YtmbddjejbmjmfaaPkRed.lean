/-
  What packet any bytes are: what the document's Decode returns, by the bytes' fields.
  Condition: a text has at most as many bytes as any text that can be read.
-/
import Derived.Test.YtmbddjejbmjmfaaPkRef
import Derived.Laws.Tables
import Derived.Deep.CutRange
import Derived.Deep.RegionHeld
namespace Go.Proofs.Ytmbddjejbmjmfaa
set_option maxRecDepth 10000
open Go.RowKit Go.Sort

set_option maxHeartbeats 1000000 in
theorem rdec_long (s : ByteArray) (hs : ((s.size : Int) == 641) = false) (w : World) : Calls Try.prog 15 #[.string s] w fun r w' =>
    r = .returned (.tuple #[.agg (pkc Pk.zero), .int .i64 50]) ∧ Below w.heap.size w w' := by
  have hs2 : ((s.size : Int) != 641) = true := by rw [bne, hs]; rfl
  obtain ⟨w0, hw0⟩ : ∃ w0, (w.alloc (.cells (pkc Pk.zero) 35)).alloc (.cells (pkc Pk.zero) 35) = w0 := ⟨_, rfl⟩
  have A0 : Blk w.heap.size (pkc Pk.zero) 35 w0 := by rw [← hw0]; exact (blk_new w _ _).alloc _
  have N0 : Blk (w.heap.size + 1) (pkc Pk.zero) 35 w0 := by
    have h := blk_new (w.alloc (.cells (pkc Pk.zero) 35)) (pkc Pk.zero) 35
    have hz : (w.alloc (.cells (pkc Pk.zero) 35)).heap.size = w.heap.size + 1 := by simp
    rw [hz, hw0] at h; exact h
  have b0 : Below w.heap.size w w0 := by rw [← hw0]; exact (below_box w _).alloc (by simp) _
  go_enter Try.func15, Try.ntmps15
  go_wp2_with (first | refine alloc_pk rfl rfl ?_ | refine build_pk rfl rfl ?_ | (refine store_new (cells := pkc Pk.zero) rfl 35 _ _ rfl rfl rfl (by rw [pkc_size]; exact size35) rfl (pkc_one _) ?_; rw [hw0]) | refine load_blk rfl 35 _ rfl N0 rfl Try.underlying35 rfl (by rw [pkc_size]; exact size35) ?_ | refine store_same rfl 35 _ _ rfl A0 rfl rfl (by rw [pkc_size]; exact size35) (pkc_one _) ?_)
  refine bodyPost_ret (ret_pk Try.results15 rfl A0 (pkc_size _) rfl) rfl ⟨rfl, b0⟩

set_option maxHeartbeats 1000000 in
theorem rdec_sum (s : ByteArray) (hs : s.size = 641) (hok : Crc.okL s.data.toList = false) (w : World) : Calls Try.prog 15 #[.string s] w fun r w' =>
    r = .returned (.tuple #[.agg (pkc Pk.zero), .int .i64 51]) ∧ Below w.heap.size w w' := by
  have hs2 : ((s.size : Int) != 641) = false := by rw [hs]; rfl
  have hk := fun w => rok_any s w (by omega)
  rw [hok] at hk
  obtain ⟨w0, hw0⟩ : ∃ w0, (w.alloc (.cells (pkc Pk.zero) 35)).alloc (.cells (pkc Pk.zero) 35) = w0 := ⟨_, rfl⟩
  have A0 : Blk w.heap.size (pkc Pk.zero) 35 w0 := by rw [← hw0]; exact (blk_new w _ _).alloc _
  have N0 : Blk (w.heap.size + 1) (pkc Pk.zero) 35 w0 := by
    have h := blk_new (w.alloc (.cells (pkc Pk.zero) 35)) (pkc Pk.zero) 35
    have hz : (w.alloc (.cells (pkc Pk.zero) 35)).heap.size = w.heap.size + 1 := by simp
    rw [hz, hw0] at h; exact h
  have b0 : Below w.heap.size w w0 := by rw [← hw0]; exact (below_box w _).alloc (by simp) _
  clear hs
  go_enter Try.func15, Try.ntmps15
  go_wp2_with (first | refine alloc_pk rfl rfl ?_ | refine build_pk rfl rfl ?_ | (refine store_new (cells := pkc Pk.zero) rfl 35 _ _ rfl rfl rfl (by rw [pkc_size]; exact size35) rfl (pkc_one _) ?_; rw [hw0]))
  refine (hk _).mono ?_
  rintro r w1 ⟨rfl, hb1⟩
  have A1 := A0.below hb1
  have N1 := N0.below hb1
  have b1 := b0.trans (hb1.mono b0.size)
  clear hk hb1 A0 N0 b0 hw0
  go_wp2_with (first | refine load_blk rfl 35 _ rfl N1 rfl Try.underlying35 rfl (by rw [pkc_size]; exact size35) ?_ | refine store_same rfl 35 _ _ rfl A1 rfl rfl (by rw [pkc_size]; exact size35) (pkc_one _) ?_)
  refine bodyPost_ret (ret_pk Try.results15 rfl A1 (pkc_size _) rfl) rfl ⟨rfl, b1⟩

def Pk.head (n : Nat → Nat) (r : Bool) : Pk := ⟨fun i => if i < 35 then n i else 0, r, zeroFr, zeroFr, zeroFr⟩
theorem head_built (n : Nat → Nat) (r : Bool) : Try.prog.built 35 [(0, .int .u32 (n 0 : Int)), (1, .int .u32 (n 1 : Int)), (2, .agg (idc (n 2) (n 3) (n 4))), (3, .agg (rowc n 5)), (4, .agg (rowc n 13)), (5, .agg (idc (n 21) (n 22) (n 23))), (6, .agg (rowc n 24)), (7, .bool r), (8, .int .u32 (n 33 : Int)), (9, .int .u32 (n 34 : Int))] = some (pkc (Pk.head n r)) := by kernel_rfl
theorem wp_build_head {op : Oper} {a : Act} {w : World} {K : Act → World → Prop} {Q : Exit → Act → World → Prop} (n : Nat → Nat) (r : Bool) (x0 x1 x2 x3 x4 x5 x6 x7 x8 x9 : Operand) (ho : op.op = .build 35 #[(0, x0), (1, x1), (2, x2), (3, x3), (4, x4), (5, x5), (6, x6), (7, x7), (8, x8), (9, x9)])
    (h0 : a.eval x0 = .int .u32 (n 0 : Int)) (h1 : a.eval x1 = .int .u32 (n 1 : Int)) (h2 : a.eval x2 = .agg (idc (n 2) (n 3) (n 4))) (h3 : a.eval x3 = .agg (rowc n 5)) (h4 : a.eval x4 = .agg (rowc n 13)) (h5 : a.eval x5 = .agg (idc (n 21) (n 22) (n 23))) (h6 : a.eval x6 = .agg (rowc n 24)) (h7 : a.eval x7 = .bool r) (h8 : a.eval x8 = .int .u32 (n 33 : Int)) (h9 : a.eval x9 = .int .u32 (n 34 : Int))
    (h : K (a.put op.dst (.agg (pkc (Pk.head n r)))) w) : op.wp Try.prog a w K Q := by
  have e : (#[(0, x0), (1, x1), (2, x2), (3, x3), (4, x4), (5, x5), (6, x6), (7, x7), (8, x8), (9, x9)].map fun (i, x) => (i, a.eval x)).toList = [(0, .int .u32 (n 0 : Int)), (1, .int .u32 (n 1 : Int)), (2, .agg (idc (n 2) (n 3) (n 4))), (3, .agg (rowc n 5)), (4, .agg (rowc n 13)), (5, .agg (idc (n 21) (n 22) (n 23))), (6, .agg (rowc n 24)), (7, .bool r), (8, .int .u32 (n 33 : Int)), (9, .int .u32 (n 34 : Int))] := by
    simp only [List.map_toArray, List.map_cons, List.map_nil, h0, h1, h2, h3, h4, h5, h6, h7, h8, h9]
  refine wp_build _ _ ho ?_ ?_
  · rw [e, head_built]; rfl
  · rw [e, head_built]; exact h
theorem wp_alloc_pk {o : Oper} {a : Act} {w : World} {K : Act → World → Prop} {Q : Exit → Act → World → Prop} (ho : o.op = .alloc 35)
    (h : K (a.put o.dst (.pointer (some ⟨w.heap.size, 0, none⟩))) (w.alloc (.cells (pkc Pk.zero) 35))) : o.wp Try.prog a w K Q := by
  have hz := (zero_of_info pk_info).1
  unfold Oper.wp execOp
  simp only [ho, Instr.alloc, Sem.run_bind, hz, Result.andThen_ok]
  exact h

theorem blk_after {u x : World} (_h : Below u.heap.size u x) (C : Array Value) (T : TypeId) : Blk x.heap.size C T (x.alloc (.cells C T)) := blk_new x C T

theorem seg_one (s : ByteArray) (o : Nat) (h : o < s.size) : Pack.val (seg s.data.toList o 1) = s[o].toNat := by
  have hl : o < s.data.toList.length := by rw [Pack.size_list]; exact h
  have e : seg s.data.toList o 1 = [s[o]] := by
    unfold seg
    rw [List.drop_eq_getElem_cons hl]
    rfl
  rw [e]
  simp [Pack.val]

theorem slice_seg (s : ByteArray) (a b : Nat) (hs : s.size = 641) (hab : a ≤ b) (hb : b ≤ 641) (w : World) : (Instr.slice 9 (.string s) (some (.int .i64 (a : Int))) (some (.int .i64 (b : Int))) none).run Try.prog w = .ok (.string (ba (seg s.data.toList a (b - a)))) w := by
  have h := run_slice_string (P := Try.prog) w 9 s .i64 .i64 (a : Int) (b : Int) Try.underlying9 (by omega) (by omega) (by omega)
  have e : s.extract a b = ba (seg s.data.toList a (b - a)) := by
    apply Pack.ext_list
    rw [Pack.extract_list, ba_data]
    rfl
  rw [Int.toNat_natCast, Int.toNat_natCast, e] at h
  exact h

set_option maxHeartbeats 8000000 in
theorem rdec_form (s : ByteArray) (hs : s.size = 641) (hok : Crc.okL s.data.toList = true) (G0 G1 G2 : Nat → En) (c0 c1 c2 : Int)
    (k0 : ∀ w, Calls Try.prog 32 #[.string (ba (seg s.data.toList 128 168))] w fun r w' => r = .returned (.tuple #[.agg (frc G0), .int .i64 c0]) ∧ Below w.heap.size w w')
    (k1 : ∀ w, Calls Try.prog 32 #[.string (ba (seg s.data.toList 296 168))] w fun r w' => r = .returned (.tuple #[.agg (frc G1), .int .i64 c1]) ∧ Below w.heap.size w w')
    (k2 : ∀ w, Calls Try.prog 32 #[.string (ba (seg s.data.toList 469 168))] w fun r w' => r = .returned (.tuple #[.agg (frc G2), .int .i64 c2]) ∧ Below w.heap.size w w') (w : World) :
    Calls Try.prog 15 #[.string s] w fun r w' =>
    r = .returned (if !spoilt (Pack.val (seg s.data.toList 119 1)) c0 c1 c2 && Pk.may ⟨tab s.data.toList, decide (Pack.val (seg s.data.toList 119 1) = 1), G0, G1, G2⟩ then .tuple #[.agg (pkc ⟨tab s.data.toList, decide (Pack.val (seg s.data.toList 119 1) = 1), G0, G1, G2⟩), .int .i64 0] else .tuple #[.agg (pkc Pk.zero), .int .i64 52]) ∧ Below w.heap.size w w' := by
  have hs2 : ((s.size : Int) != 641) = false := by rw [hs]; rfl
  have hk := fun w => rok_any s w (by omega)
  rw [hok] at hk
  have t119 : 119 < s.size := by omega
  have hT := seg_one s 119 t119
  have q0 : ∀ w, Calls Try.prog 29 #[.string s, .int .i64 0, .int .i64 1] w fun e w' => e = .returned (.int .u32 (tab s.data.toList 0 : Int)) ∧ Below w.heap.size w w' := fun w => rat1_ok s 0 hs (by decide) w
  have q1 : ∀ w, Calls Try.prog 29 #[.string s, .int .i64 1, .int .i64 4] w fun e w' => e = .returned (.int .u32 (tab s.data.toList 1 : Int)) ∧ Below w.heap.size w w' := fun w => rat4_ok s 1 hs (by decide) w
  have q2 : ∀ w, Calls Try.prog 30 #[.string s, .int .i64 5] w fun e w' => e = .returned (.agg (idc (tab s.data.toList 2) (tab s.data.toList 3) (tab s.data.toList 4))) ∧ Below w.heap.size w w' := fun w => ridAt_ok s 5 hs (by decide) w
  have q3 : ∀ w, Calls Try.prog 31 #[.string s, .int .i64 14] w fun e w' => e = .returned (.agg (rowc (tab s.data.toList) 5)) ∧ Below w.heap.size w w' := fun w => reightAt_ok s 14 hs (by decide) w
  have q4 : ∀ w, Calls Try.prog 31 #[.string s, .int .i64 46] w fun e w' => e = .returned (.agg (rowc (tab s.data.toList) 13)) ∧ Below w.heap.size w w' := fun w => reightAt_ok s 46 hs (by decide) w
  have q5 : ∀ w, Calls Try.prog 30 #[.string s, .int .i64 78] w fun e w' => e = .returned (.agg (idc (tab s.data.toList 21) (tab s.data.toList 22) (tab s.data.toList 23))) ∧ Below w.heap.size w w' := fun w => ridAt_ok s 78 hs (by decide) w
  have q6 : ∀ w, Calls Try.prog 31 #[.string s, .int .i64 87] w fun e w' => e = .returned (.agg (rowc (tab s.data.toList) 24)) ∧ Below w.heap.size w w' := fun w => reightAt_ok s 87 hs (by decide) w
  have q8 : ∀ w, Calls Try.prog 29 #[.string s, .int .i64 120, .int .i64 4] w fun e w' => e = .returned (.int .u32 (tab s.data.toList 33 : Int)) ∧ Below w.heap.size w w' := fun w => rat4_ok s 120 hs (by decide) w
  have q9 : ∀ w, Calls Try.prog 29 #[.string s, .int .i64 124, .int .i64 4] w fun e w' => e = .returned (.int .u32 (tab s.data.toList 34 : Int)) ∧ Below w.heap.size w w' := fun w => rat4_ok s 124 hs (by decide) w
  have q10 : ∀ w, Calls Try.prog 29 #[.string s, .int .i64 464, .int .i64 1] w fun e w' => e = .returned (.int .u32 (tab s.data.toList 107 : Int)) ∧ Below w.heap.size w w' := fun w => rat1_ok s 464 hs (by decide) w
  have q11 : ∀ w, Calls Try.prog 29 #[.string s, .int .i64 465, .int .i64 4] w fun e w' => e = .returned (.int .u32 (tab s.data.toList 108 : Int)) ∧ Below w.heap.size w w' := fun w => rat4_ok s 465 hs (by decide) w
  have z0 : ∀ w : World, (Instr.slice 9 (.string s) (some (.int .i64 128)) (some (.int .i64 296)) none).run Try.prog w = .ok (.string (ba (seg s.data.toList 128 168))) w := fun w => slice_seg s 128 296 hs (by decide) (by decide) w
  have z1 : ∀ w : World, (Instr.slice 9 (.string s) (some (.int .i64 296)) (some (.int .i64 464)) none).run Try.prog w = .ok (.string (ba (seg s.data.toList 296 168))) w := fun w => slice_seg s 296 464 hs (by decide) (by decide) w
  have z2 : ∀ w : World, (Instr.slice 9 (.string s) (some (.int .i64 469)) (some (.int .i64 637)) none).run Try.prog w = .ok (.string (ba (seg s.data.toList 469 168))) w := fun w => slice_seg s 469 637 hs (by decide) (by decide) w
  have hix : ∀ w : World, (Instr.index 9 (.string s) (.int .i64 119)).run Try.prog w = .ok (.int .u8 (s[119].toNat : Int)) w := by
    intro w
    have t2 : (119 : Int) < (s.size : Int) := by omega
    simp [go_sem, t2]
  rw [hT]
  generalize s[119].toNat = t at hix
  have hr : ((t : Int) == 1) = decide (t = 1) := by rw [Bool.eq_iff_iff, beq_iff_eq, decide_eq_true_iff]; omega
  generalize ba (seg s.data.toList 128 168) = fa at z0 k0
  generalize ba (seg s.data.toList 296 168) = fb at z1 k1
  generalize ba (seg s.data.toList 469 168) = fc at z2 k2
  generalize tab s.data.toList = n at *
  generalize hrd : decide (t = 1) = r at hr ⊢
  obtain ⟨P, hP⟩ : ∃ P : Pk, Hid ((⟨n, r, G0, G1, G2⟩ : Pk) = P) := ⟨_, rfl⟩
  rw [hP.out]
  have hck := fun w => rcheck_pk P w
  obtain ⟨res, hres⟩ : ∃ res : Value, Hid ((if !spoilt t c0 c1 c2 && P.may then .tuple #[.agg (pkc P), .int .i64 0] else .tuple #[.agg (pkc Pk.zero), .int .i64 52]) = res) := ⟨_, rfl⟩
  rw [hres.out]
  obtain ⟨N, hN⟩ : ∃ N, N = w.heap.size + 1 := ⟨_, rfl⟩
  obtain ⟨w0, hw0⟩ : ∃ w0, (w.alloc (.cells (pkc Pk.zero) 35)).alloc (.cells (pkc Pk.zero) 35) = w0 := ⟨_, rfl⟩
  have A0 : Blk w.heap.size (pkc Pk.zero) 35 w0 := by rw [← hw0]; exact (blk_new w _ _).alloc _
  have N0 : Blk N (pkc Pk.zero) 35 w0 := by
    have h := blk_new (w.alloc (.cells (pkc Pk.zero) 35)) (pkc Pk.zero) 35
    have hz : (w.alloc (.cells (pkc Pk.zero) 35)).heap.size = w.heap.size + 1 := by simp
    rw [hz, hw0, ← hN] at h; exact h
  have b0 : Below w.heap.size w w0 := by rw [← hw0]; exact (below_box w _).alloc (by simp) _
  have KN : Hid (w.heap.size + 1 = N) := hN.symm
  have HS : Hid (s.size = 641) := hs
  have HT : Hid (decide (t = 1) = r) := hrd
  clear hs hok hT t119 hN hrd
  go_enter Try.func15, Try.ntmps15
  go_wp2_with (first | refine alloc_pk rfl rfl ?_ | refine build_pk rfl rfl ?_ | (refine store_new (cells := pkc Pk.zero) rfl 35 _ _ rfl rfl rfl (by rw [pkc_size]; exact size35) rfl (pkc_one _) ?_; rw [hw0]))
  rw [KN.out]
  refine (hk _).mono ?_
  rintro e w1 ⟨rfl, hb1⟩
  have A1 := A0.below hb1
  have N1 := N0.below hb1
  have b1 := b0.trans (hb1.mono b0.size)
  clear hk hb1 A0 N0 b0 hw0
  go_upto_region 6 with fail
  go_cut [5] from 21 to 42 (fun v w' => ∃ V, v = .pointer (some ⟨V, 0, none⟩) ∧ w1.heap.size ≤ V ∧ Blk V (pkc (Pk.head n r)) 35 w' ∧ Below w1.heap.size w1 w')
  case first =>
    refine wp_region_held_drew (S := fun w' => Below w1.heap.size w1 w') (by kernel_rfl) (Below.refl _ w1).drew (fun hHeld => ?_)
    refine wpAnyH_take (i := 0) (v := ?v0) rfl (by kernel_rfl) (by kernel_rfl) (by kernel_rfl) (fun _ _ _ h => h) (Or.inl ⟨by rfl, ?hy0⟩) hHeld ?rest0
    case hy0 => (intro w hSw; clear hSw; go_simp; try with_reducible rfl)
    try simp only [List.getElem_toArray]
    try simp only [List.getElem_cons_succ]
    try simp only [List.getElem_cons_zero]
    try simp only [Act.put]
    try simp only [List.setIfInBounds_toArray]
    try simp only [List.set_cons_succ]
    try simp only [List.set_cons_zero]
    refine wpAnyH_take (i := 2) (v := ?v2) rfl (by kernel_rfl) (by kernel_rfl) (by kernel_rfl) (fun _ _ _ h => h) (Or.inl ⟨by rfl, ?hy2⟩) hHeld ?rest2
    case hy2 => (intro w hSw; clear hSw; go_simp; try with_reducible rfl)
    try simp only [List.getElem_toArray]
    try simp only [List.getElem_cons_succ]
    try simp only [List.getElem_cons_zero]
    try simp only [Act.put]
    try simp only [List.setIfInBounds_toArray]
    try simp only [List.set_cons_succ]
    try simp only [List.set_cons_zero]
    refine wpAnyH_take (i := 4) (v := ?v4) rfl (by kernel_rfl) (by kernel_rfl) (by kernel_rfl) (fun _ _ _ h => h) (Or.inl ⟨by rfl, ?hy4⟩) hHeld ?rest4
    case hy4 => (intro w hSw; clear hSw; go_simp; try with_reducible rfl)
    try simp only [List.getElem_toArray]
    try simp only [List.getElem_cons_succ]
    try simp only [List.getElem_cons_zero]
    try simp only [Act.put]
    try simp only [List.setIfInBounds_toArray]
    try simp only [List.set_cons_succ]
    try simp only [List.set_cons_zero]
    refine wpAnyH_take (i := 6) (v := ?v6) rfl (by kernel_rfl) (by kernel_rfl) (by kernel_rfl) (fun _ _ _ h => h) (Or.inl ⟨by rfl, ?hy6⟩) hHeld ?rest6
    case hy6 => (intro w hSw; clear hSw; go_simp; try with_reducible rfl)
    try simp only [List.getElem_toArray]
    try simp only [List.getElem_cons_succ]
    try simp only [List.getElem_cons_zero]
    try simp only [Act.put]
    try simp only [List.setIfInBounds_toArray]
    try simp only [List.set_cons_succ]
    try simp only [List.set_cons_zero]
    refine wpAnyH_take (i := 8) (v := ?v8) rfl (by kernel_rfl) (by kernel_rfl) (by kernel_rfl) (fun _ _ _ h => h) (Or.inl ⟨by rfl, ?hy8⟩) hHeld ?rest8
    case hy8 => (intro w hSw; clear hSw; go_simp; try with_reducible rfl)
    try simp only [List.getElem_toArray]
    try simp only [List.getElem_cons_succ]
    try simp only [List.getElem_cons_zero]
    try simp only [Act.put]
    try simp only [List.setIfInBounds_toArray]
    try simp only [List.set_cons_succ]
    try simp only [List.set_cons_zero]
    refine wpAnyH_take (i := 10) (v := ?v10) rfl (by kernel_rfl) (by kernel_rfl) (by kernel_rfl) (fun _ _ _ h => h) (Or.inl ⟨by rfl, ?hy10⟩) hHeld ?rest10
    case hy10 => (intro w hSw; clear hSw; go_simp; try with_reducible rfl)
    try simp only [List.getElem_toArray]
    try simp only [List.getElem_cons_succ]
    try simp only [List.getElem_cons_zero]
    try simp only [Act.put]
    try simp only [List.setIfInBounds_toArray]
    try simp only [List.set_cons_succ]
    try simp only [List.set_cons_zero]
    refine wpAnyH_take (i := 12) (v := ?v12) rfl (by kernel_rfl) (by kernel_rfl) (by kernel_rfl) (fun _ _ _ h => h) (Or.inl ⟨by rfl, ?hy12⟩) hHeld ?rest12
    case hy12 => (intro w hSw; clear hSw; go_simp; try with_reducible rfl)
    try simp only [List.getElem_toArray]
    try simp only [List.getElem_cons_succ]
    try simp only [List.getElem_cons_zero]
    try simp only [Act.put]
    try simp only [List.setIfInBounds_toArray]
    try simp only [List.set_cons_succ]
    try simp only [List.set_cons_zero]
    refine wpAnyH_take (i := 14) (v := ?v14) rfl (by kernel_rfl) (by kernel_rfl) (by kernel_rfl) (fun _ _ _ h => h) (Or.inl ⟨by rfl, ?hy14⟩) hHeld ?rest14
    case hy14 => (intro w hSw; clear hSw; go_simp; try with_reducible rfl)
    try simp only [List.getElem_toArray]
    try simp only [List.getElem_cons_succ]
    try simp only [List.getElem_cons_zero]
    try simp only [Act.put]
    try simp only [List.setIfInBounds_toArray]
    try simp only [List.set_cons_succ]
    try simp only [List.set_cons_zero]
    refine wpAnyH_take (i := 17) (v := ?v17) rfl (by kernel_rfl) (by kernel_rfl) (by kernel_rfl) (fun _ _ _ h => h) (Or.inl ⟨by rfl, ?hy17⟩) hHeld ?rest17
    case hy17 => (intro w hSw; clear hSw; go_simp; try with_reducible rfl)
    try simp only [List.getElem_toArray]
    try simp only [List.getElem_cons_succ]
    try simp only [List.getElem_cons_zero]
    try simp only [Act.put]
    try simp only [List.setIfInBounds_toArray]
    try simp only [List.set_cons_succ]
    try simp only [List.set_cons_zero]
    refine wpAnyH_take (i := 19) (v := ?v19) rfl (by kernel_rfl) (by kernel_rfl) (by kernel_rfl) (fun _ _ _ h => h) (Or.inl ⟨by rfl, ?hy19⟩) hHeld ?rest19
    case hy19 => (intro w hSw; clear hSw; go_simp; try with_reducible rfl)
    try simp only [List.getElem_toArray]
    try simp only [List.getElem_cons_succ]
    try simp only [List.getElem_cons_zero]
    try simp only [Act.put]
    try simp only [List.setIfInBounds_toArray]
    try simp only [List.set_cons_succ]
    try simp only [List.set_cons_zero]
    refine wpAnyH_take (i := 15) (v := ?v15) rfl (by kernel_rfl) (by kernel_rfl) (by kernel_rfl) (fun _ _ _ h => h) (Or.inl ⟨by rfl, ?hy15⟩) hHeld ?rest15
    case hy15 => (intro w hSw; clear hSw; go_simp; try with_reducible rfl)
    try simp only [List.getElem_toArray]
    try simp only [List.getElem_cons_succ]
    try simp only [List.getElem_cons_zero]
    try simp only [Act.put]
    try simp only [List.setIfInBounds_toArray]
    try simp only [List.set_cons_succ]
    try simp only [List.set_cons_zero]
    refine wpAnyH_take (i := 16) (v := ?v16) rfl (by kernel_rfl) (by kernel_rfl) (by kernel_rfl) (fun _ _ _ h => h) (Or.inl ⟨by rfl, ?hy16⟩) hHeld ?rest16
    case hy16 => (intro w hSw; clear hSw; go_simp; try with_reducible rfl)
    try simp only [List.getElem_toArray]
    try simp only [List.getElem_cons_succ]
    try simp only [List.getElem_cons_zero]
    try simp only [Act.put]
    try simp only [List.setIfInBounds_toArray]
    try simp only [List.set_cons_succ]
    try simp only [List.set_cons_zero]
    refine wpAnyH_ready (rs := [1, 22]) (by kernel_rfl) (by simp) ?_
    refine AllReadyH.cons rfl (fun K hK => ?_) (AllReadyH.cons rfl (fun K hK => ?_) AllReadyH.nil)
    · go_simp
      go_wp2_with (refine (q0 _).mono ?_; rintro r xn ⟨rfl, hc⟩)
      refine hK.out _ _ (hHeld.trans (hc.mono hHeld.size)) (fun hHeld => ?_)
      clear hK K hc
      refine wpAnyH_ready (rs := [3, 22]) (by kernel_rfl) (by simp) ?_
      refine AllReadyH.cons rfl (fun K hK => ?_) (AllReadyH.cons rfl (fun K hK => ?_) AllReadyH.nil)
      · go_simp
        go_wp2_with (refine (q1 _).mono ?_; rintro r xn ⟨rfl, hc⟩)
        refine hK.out _ _ (hHeld.trans (hc.mono hHeld.size)) (fun hHeld => ?_)
        clear hK K hc
        refine wpAnyH_ready (rs := [5, 22]) (by kernel_rfl) (by simp) ?_
        refine AllReadyH.cons rfl (fun K hK => ?_) (AllReadyH.cons rfl (fun K hK => ?_) AllReadyH.nil)
        · go_simp
          go_wp2_with (refine (q2 _).mono ?_; rintro r xn ⟨rfl, hc⟩)
          refine hK.out _ _ (hHeld.trans (hc.mono hHeld.size)) (fun hHeld => ?_)
          clear hK K hc
          refine wpAnyH_ready (rs := [7, 22]) (by kernel_rfl) (by simp) ?_
          refine AllReadyH.cons rfl (fun K hK => ?_) (AllReadyH.cons rfl (fun K hK => ?_) AllReadyH.nil)
          · go_simp
            go_wp2_with (refine (q3 _).mono ?_; rintro r xn ⟨rfl, hc⟩)
            refine hK.out _ _ (hHeld.trans (hc.mono hHeld.size)) (fun hHeld => ?_)
            clear hK K hc
            refine wpAnyH_ready (rs := [9, 22]) (by kernel_rfl) (by simp) ?_
            refine AllReadyH.cons rfl (fun K hK => ?_) (AllReadyH.cons rfl (fun K hK => ?_) AllReadyH.nil)
            · go_simp
              go_wp2_with (refine (q4 _).mono ?_; rintro r xn ⟨rfl, hc⟩)
              refine hK.out _ _ (hHeld.trans (hc.mono hHeld.size)) (fun hHeld => ?_)
              clear hK K hc
              refine wpAnyH_ready (rs := [11, 22]) (by kernel_rfl) (by simp) ?_
              refine AllReadyH.cons rfl (fun K hK => ?_) (AllReadyH.cons rfl (fun K hK => ?_) AllReadyH.nil)
              · go_simp
                go_wp2_with (refine (q5 _).mono ?_; rintro r xn ⟨rfl, hc⟩)
                refine hK.out _ _ (hHeld.trans (hc.mono hHeld.size)) (fun hHeld => ?_)
                clear hK K hc
                refine wpAnyH_ready (rs := [13, 22]) (by kernel_rfl) (by simp) ?_
                refine AllReadyH.cons rfl (fun K hK => ?_) (AllReadyH.cons rfl (fun K hK => ?_) AllReadyH.nil)
                · go_simp
                  go_wp2_with (refine (q6 _).mono ?_; rintro r xn ⟨rfl, hc⟩)
                  refine hK.out _ _ (hHeld.trans (hc.mono hHeld.size)) (fun hHeld => ?_)
                  clear hK K hc
                  refine wpAnyH_ready (rs := [18, 22]) (by kernel_rfl) (by simp) ?_
                  refine AllReadyH.cons rfl (fun K hK => ?_) (AllReadyH.cons rfl (fun K hK => ?_) AllReadyH.nil)
                  · go_simp
                    go_wp2_with (refine (q8 _).mono ?_; rintro r xn ⟨rfl, hc⟩)
                    refine hK.out _ _ (hHeld.trans (hc.mono hHeld.size)) (fun hHeld => ?_)
                    clear hK K hc
                    refine wpAnyH_ready (rs := [20, 22]) (by kernel_rfl) (by simp) ?_
                    refine AllReadyH.cons rfl (fun K hK => ?_) (AllReadyH.cons rfl (fun K hK => ?_) AllReadyH.nil)
                    · go_simp
                      go_wp2_with (refine (q9 _).mono ?_; rintro r xn ⟨rfl, hc⟩)
                      refine hK.out _ _ (hHeld.trans (hc.mono hHeld.size)) (fun hHeld => ?_)
                      clear hK K hc
                      refine wpAnyH_ready (rs := [21, 22]) (by kernel_rfl) (by simp) ?_
                      refine AllReadyH.cons rfl (fun K hK => ?_) (AllReadyH.cons rfl (fun K hK => ?_) AllReadyH.nil)
                      · rw [if_pos (by rfl)]
                        refine wp_build_head n r _ _ _ _ _ _ _ _ _ _ rfl rfl rfl rfl rfl rfl rfl rfl rfl rfl rfl ?_
                        refine hK.out _ _ hHeld (fun hHeld => ?_)
                        clear hK K
                        try simp only [List.getElem_toArray]
                        try simp only [List.getElem_cons_succ]
                        try simp only [List.getElem_cons_zero]
                        try simp only [Act.put]
                        try simp only [List.setIfInBounds_toArray]
                        try simp only [List.set_cons_succ]
                        try simp only [List.set_cons_zero]
                        refine wpAnyH_ready (rs := [22]) (by kernel_rfl) (by simp) ?_
                        refine AllReadyH.cons rfl (fun K hK => ?_) AllReadyH.nil
                        rw [if_pos (by rfl)]
                        refine wp_alloc_pk rfl ?_
                        have hle := hHeld.size
                        have VB := blk_after hHeld (pkc Pk.zero) 35
                        refine hK.out _ _ (hHeld.alloc hHeld.size _) (fun hHeld => ?_)
                        clear hK K
                        try simp only [List.getElem_toArray]
                        try simp only [List.getElem_cons_succ]
                        try simp only [List.getElem_cons_zero]
                        try simp only [Act.put]
                        try simp only [List.setIfInBounds_toArray]
                        try simp only [List.set_cons_succ]
                        try simp only [List.set_cons_zero]
                        refine wpAnyH_ready (rs := [23]) (by kernel_rfl) (by simp) ?_
                        refine AllReadyH.cons rfl (fun K hK => ?_) AllReadyH.nil
                        rw [if_pos (by rfl)]
                        refine wp_store_mid 35 _ _ rfl _ 0 (pkc (Pk.head n r)) rfl rfl (VB.there 0 _ (by rw [pkc_size, pkc_size]; decide)) (by rw [pkc_size]; exact size35) (pkc_one _) ?_
                        have VC := VB.setCells (pkc (Pk.head n r)).toList 0
                        rw [pkc_put_all] at VC
                        refine hK.out _ _ (below_cells hle _ 0 hHeld) (fun hHeld => ?_)
                        clear hK K
                        try simp only [List.getElem_toArray]
                        try simp only [List.getElem_cons_succ]
                        try simp only [List.getElem_cons_zero]
                        try simp only [Act.put]
                        try simp only [List.setIfInBounds_toArray]
                        try simp only [List.set_cons_succ]
                        try simp only [List.set_cons_zero]
                        refine wpAnyH_done (by kernel_rfl) ?_ _
                        go_wp2_with fail
                        go_meet
                        exact ⟨_, rfl, hle, VC, hHeld⟩
                      · rw [if_pos (by rfl)]
                        refine wp_alloc_pk rfl ?_
                        have hle := hHeld.size
                        have VB := blk_after hHeld (pkc Pk.zero) 35
                        refine hK.out _ _ (hHeld.alloc hHeld.size _) (fun hHeld => ?_)
                        clear hK K
                        try simp only [List.getElem_toArray]
                        try simp only [List.getElem_cons_succ]
                        try simp only [List.getElem_cons_zero]
                        try simp only [Act.put]
                        try simp only [List.setIfInBounds_toArray]
                        try simp only [List.set_cons_succ]
                        try simp only [List.set_cons_zero]
                        refine wpAnyH_ready (rs := [21]) (by kernel_rfl) (by simp) ?_
                        refine AllReadyH.cons rfl (fun K hK => ?_) AllReadyH.nil
                        rw [if_pos (by rfl)]
                        refine wp_build_head n r _ _ _ _ _ _ _ _ _ _ rfl rfl rfl rfl rfl rfl rfl rfl rfl rfl rfl ?_
                        refine hK.out _ _ hHeld (fun hHeld => ?_)
                        clear hK K
                        try simp only [List.getElem_toArray]
                        try simp only [List.getElem_cons_succ]
                        try simp only [List.getElem_cons_zero]
                        try simp only [Act.put]
                        try simp only [List.setIfInBounds_toArray]
                        try simp only [List.set_cons_succ]
                        try simp only [List.set_cons_zero]
                        refine wpAnyH_ready (rs := [23]) (by kernel_rfl) (by simp) ?_
                        refine AllReadyH.cons rfl (fun K hK => ?_) AllReadyH.nil
                        rw [if_pos (by rfl)]
                        refine wp_store_mid 35 _ _ rfl _ 0 (pkc (Pk.head n r)) rfl rfl (VB.there 0 _ (by rw [pkc_size, pkc_size]; decide)) (by rw [pkc_size]; exact size35) (pkc_one _) ?_
                        have VC := VB.setCells (pkc (Pk.head n r)).toList 0
                        rw [pkc_put_all] at VC
                        refine hK.out _ _ (below_cells hle _ 0 hHeld) (fun hHeld => ?_)
                        clear hK K
                        try simp only [List.getElem_toArray]
                        try simp only [List.getElem_cons_succ]
                        try simp only [List.getElem_cons_zero]
                        try simp only [Act.put]
                        try simp only [List.setIfInBounds_toArray]
                        try simp only [List.set_cons_succ]
                        try simp only [List.set_cons_zero]
                        refine wpAnyH_done (by kernel_rfl) ?_ _
                        go_wp2_with fail
                        go_meet
                        exact ⟨_, rfl, hle, VC, hHeld⟩
                    · rw [if_pos (by rfl)]
                      refine wp_alloc_pk rfl ?_
                      have hle := hHeld.size
                      have VB := blk_after hHeld (pkc Pk.zero) 35
                      refine hK.out _ _ (hHeld.alloc hHeld.size _) (fun hHeld => ?_)
                      clear hK K
                      try simp only [List.getElem_toArray]
                      try simp only [List.getElem_cons_succ]
                      try simp only [List.getElem_cons_zero]
                      try simp only [Act.put]
                      try simp only [List.setIfInBounds_toArray]
                      try simp only [List.set_cons_succ]
                      try simp only [List.set_cons_zero]
                      refine wpAnyH_ready (rs := [20]) (by kernel_rfl) (by simp) ?_
                      refine AllReadyH.cons rfl (fun K hK => ?_) AllReadyH.nil
                      go_simp
                      go_wp2_with (refine (q9 _).mono ?_; rintro r xn ⟨rfl, hc⟩)
                      have VB := VB.below hc
                      refine hK.out _ _ (hHeld.trans (hc.mono hHeld.size)) (fun hHeld => ?_)
                      clear hK K hc
                      refine wpAnyH_ready (rs := [21]) (by kernel_rfl) (by simp) ?_
                      refine AllReadyH.cons rfl (fun K hK => ?_) AllReadyH.nil
                      rw [if_pos (by rfl)]
                      refine wp_build_head n r _ _ _ _ _ _ _ _ _ _ rfl rfl rfl rfl rfl rfl rfl rfl rfl rfl rfl ?_
                      refine hK.out _ _ hHeld (fun hHeld => ?_)
                      clear hK K
                      try simp only [List.getElem_toArray]
                      try simp only [List.getElem_cons_succ]
                      try simp only [List.getElem_cons_zero]
                      try simp only [Act.put]
                      try simp only [List.setIfInBounds_toArray]
                      try simp only [List.set_cons_succ]
                      try simp only [List.set_cons_zero]
                      refine wpAnyH_ready (rs := [23]) (by kernel_rfl) (by simp) ?_
                      refine AllReadyH.cons rfl (fun K hK => ?_) AllReadyH.nil
                      rw [if_pos (by rfl)]
                      refine wp_store_mid 35 _ _ rfl _ 0 (pkc (Pk.head n r)) rfl rfl (VB.there 0 _ (by rw [pkc_size, pkc_size]; decide)) (by rw [pkc_size]; exact size35) (pkc_one _) ?_
                      have VC := VB.setCells (pkc (Pk.head n r)).toList 0
                      rw [pkc_put_all] at VC
                      refine hK.out _ _ (below_cells hle _ 0 hHeld) (fun hHeld => ?_)
                      clear hK K
                      try simp only [List.getElem_toArray]
                      try simp only [List.getElem_cons_succ]
                      try simp only [List.getElem_cons_zero]
                      try simp only [Act.put]
                      try simp only [List.setIfInBounds_toArray]
                      try simp only [List.set_cons_succ]
                      try simp only [List.set_cons_zero]
                      refine wpAnyH_done (by kernel_rfl) ?_ _
                      go_wp2_with fail
                      go_meet
                      exact ⟨_, rfl, hle, VC, hHeld⟩
                  · rw [if_pos (by rfl)]
                    refine wp_alloc_pk rfl ?_
                    have hle := hHeld.size
                    have VB := blk_after hHeld (pkc Pk.zero) 35
                    refine hK.out _ _ (hHeld.alloc hHeld.size _) (fun hHeld => ?_)
                    clear hK K
                    try simp only [List.getElem_toArray]
                    try simp only [List.getElem_cons_succ]
                    try simp only [List.getElem_cons_zero]
                    try simp only [Act.put]
                    try simp only [List.setIfInBounds_toArray]
                    try simp only [List.set_cons_succ]
                    try simp only [List.set_cons_zero]
                    refine wpAnyH_ready (rs := [18]) (by kernel_rfl) (by simp) ?_
                    refine AllReadyH.cons rfl (fun K hK => ?_) AllReadyH.nil
                    go_simp
                    go_wp2_with (refine (q8 _).mono ?_; rintro r xn ⟨rfl, hc⟩)
                    have VB := VB.below hc
                    refine hK.out _ _ (hHeld.trans (hc.mono hHeld.size)) (fun hHeld => ?_)
                    clear hK K hc
                    refine wpAnyH_ready (rs := [20]) (by kernel_rfl) (by simp) ?_
                    refine AllReadyH.cons rfl (fun K hK => ?_) AllReadyH.nil
                    go_simp
                    go_wp2_with (refine (q9 _).mono ?_; rintro r xn ⟨rfl, hc⟩)
                    have VB := VB.below hc
                    refine hK.out _ _ (hHeld.trans (hc.mono hHeld.size)) (fun hHeld => ?_)
                    clear hK K hc
                    refine wpAnyH_ready (rs := [21]) (by kernel_rfl) (by simp) ?_
                    refine AllReadyH.cons rfl (fun K hK => ?_) AllReadyH.nil
                    rw [if_pos (by rfl)]
                    refine wp_build_head n r _ _ _ _ _ _ _ _ _ _ rfl rfl rfl rfl rfl rfl rfl rfl rfl rfl rfl ?_
                    refine hK.out _ _ hHeld (fun hHeld => ?_)
                    clear hK K
                    try simp only [List.getElem_toArray]
                    try simp only [List.getElem_cons_succ]
                    try simp only [List.getElem_cons_zero]
                    try simp only [Act.put]
                    try simp only [List.setIfInBounds_toArray]
                    try simp only [List.set_cons_succ]
                    try simp only [List.set_cons_zero]
                    refine wpAnyH_ready (rs := [23]) (by kernel_rfl) (by simp) ?_
                    refine AllReadyH.cons rfl (fun K hK => ?_) AllReadyH.nil
                    rw [if_pos (by rfl)]
                    refine wp_store_mid 35 _ _ rfl _ 0 (pkc (Pk.head n r)) rfl rfl (VB.there 0 _ (by rw [pkc_size, pkc_size]; decide)) (by rw [pkc_size]; exact size35) (pkc_one _) ?_
                    have VC := VB.setCells (pkc (Pk.head n r)).toList 0
                    rw [pkc_put_all] at VC
                    refine hK.out _ _ (below_cells hle _ 0 hHeld) (fun hHeld => ?_)
                    clear hK K
                    try simp only [List.getElem_toArray]
                    try simp only [List.getElem_cons_succ]
                    try simp only [List.getElem_cons_zero]
                    try simp only [Act.put]
                    try simp only [List.setIfInBounds_toArray]
                    try simp only [List.set_cons_succ]
                    try simp only [List.set_cons_zero]
                    refine wpAnyH_done (by kernel_rfl) ?_ _
                    go_wp2_with fail
                    go_meet
                    exact ⟨_, rfl, hle, VC, hHeld⟩
                · rw [if_pos (by rfl)]
                  refine wp_alloc_pk rfl ?_
                  have hle := hHeld.size
                  have VB := blk_after hHeld (pkc Pk.zero) 35
                  refine hK.out _ _ (hHeld.alloc hHeld.size _) (fun hHeld => ?_)
                  clear hK K
                  try simp only [List.getElem_toArray]
                  try simp only [List.getElem_cons_succ]
                  try simp only [List.getElem_cons_zero]
                  try simp only [Act.put]
                  try simp only [List.setIfInBounds_toArray]
                  try simp only [List.set_cons_succ]
                  try simp only [List.set_cons_zero]
                  refine wpAnyH_ready (rs := [13]) (by kernel_rfl) (by simp) ?_
                  refine AllReadyH.cons rfl (fun K hK => ?_) AllReadyH.nil
                  go_simp
                  go_wp2_with (refine (q6 _).mono ?_; rintro r xn ⟨rfl, hc⟩)
                  have VB := VB.below hc
                  refine hK.out _ _ (hHeld.trans (hc.mono hHeld.size)) (fun hHeld => ?_)
                  clear hK K hc
                  refine wpAnyH_ready (rs := [18]) (by kernel_rfl) (by simp) ?_
                  refine AllReadyH.cons rfl (fun K hK => ?_) AllReadyH.nil
                  go_simp
                  go_wp2_with (refine (q8 _).mono ?_; rintro r xn ⟨rfl, hc⟩)
                  have VB := VB.below hc
                  refine hK.out _ _ (hHeld.trans (hc.mono hHeld.size)) (fun hHeld => ?_)
                  clear hK K hc
                  refine wpAnyH_ready (rs := [20]) (by kernel_rfl) (by simp) ?_
                  refine AllReadyH.cons rfl (fun K hK => ?_) AllReadyH.nil
                  go_simp
                  go_wp2_with (refine (q9 _).mono ?_; rintro r xn ⟨rfl, hc⟩)
                  have VB := VB.below hc
                  refine hK.out _ _ (hHeld.trans (hc.mono hHeld.size)) (fun hHeld => ?_)
                  clear hK K hc
                  refine wpAnyH_ready (rs := [21]) (by kernel_rfl) (by simp) ?_
                  refine AllReadyH.cons rfl (fun K hK => ?_) AllReadyH.nil
                  rw [if_pos (by rfl)]
                  refine wp_build_head n r _ _ _ _ _ _ _ _ _ _ rfl rfl rfl rfl rfl rfl rfl rfl rfl rfl rfl ?_
                  refine hK.out _ _ hHeld (fun hHeld => ?_)
                  clear hK K
                  try simp only [List.getElem_toArray]
                  try simp only [List.getElem_cons_succ]
                  try simp only [List.getElem_cons_zero]
                  try simp only [Act.put]
                  try simp only [List.setIfInBounds_toArray]
                  try simp only [List.set_cons_succ]
                  try simp only [List.set_cons_zero]
                  refine wpAnyH_ready (rs := [23]) (by kernel_rfl) (by simp) ?_
                  refine AllReadyH.cons rfl (fun K hK => ?_) AllReadyH.nil
                  rw [if_pos (by rfl)]
                  refine wp_store_mid 35 _ _ rfl _ 0 (pkc (Pk.head n r)) rfl rfl (VB.there 0 _ (by rw [pkc_size, pkc_size]; decide)) (by rw [pkc_size]; exact size35) (pkc_one _) ?_
                  have VC := VB.setCells (pkc (Pk.head n r)).toList 0
                  rw [pkc_put_all] at VC
                  refine hK.out _ _ (below_cells hle _ 0 hHeld) (fun hHeld => ?_)
                  clear hK K
                  try simp only [List.getElem_toArray]
                  try simp only [List.getElem_cons_succ]
                  try simp only [List.getElem_cons_zero]
                  try simp only [Act.put]
                  try simp only [List.setIfInBounds_toArray]
                  try simp only [List.set_cons_succ]
                  try simp only [List.set_cons_zero]
                  refine wpAnyH_done (by kernel_rfl) ?_ _
                  go_wp2_with fail
                  go_meet
                  exact ⟨_, rfl, hle, VC, hHeld⟩
              · rw [if_pos (by rfl)]
                refine wp_alloc_pk rfl ?_
                have hle := hHeld.size
                have VB := blk_after hHeld (pkc Pk.zero) 35
                refine hK.out _ _ (hHeld.alloc hHeld.size _) (fun hHeld => ?_)
                clear hK K
                try simp only [List.getElem_toArray]
                try simp only [List.getElem_cons_succ]
                try simp only [List.getElem_cons_zero]
                try simp only [Act.put]
                try simp only [List.setIfInBounds_toArray]
                try simp only [List.set_cons_succ]
                try simp only [List.set_cons_zero]
                refine wpAnyH_ready (rs := [11]) (by kernel_rfl) (by simp) ?_
                refine AllReadyH.cons rfl (fun K hK => ?_) AllReadyH.nil
                go_simp
                go_wp2_with (refine (q5 _).mono ?_; rintro r xn ⟨rfl, hc⟩)
                have VB := VB.below hc
                refine hK.out _ _ (hHeld.trans (hc.mono hHeld.size)) (fun hHeld => ?_)
                clear hK K hc
                refine wpAnyH_ready (rs := [13]) (by kernel_rfl) (by simp) ?_
                refine AllReadyH.cons rfl (fun K hK => ?_) AllReadyH.nil
                go_simp
                go_wp2_with (refine (q6 _).mono ?_; rintro r xn ⟨rfl, hc⟩)
                have VB := VB.below hc
                refine hK.out _ _ (hHeld.trans (hc.mono hHeld.size)) (fun hHeld => ?_)
                clear hK K hc
                refine wpAnyH_ready (rs := [18]) (by kernel_rfl) (by simp) ?_
                refine AllReadyH.cons rfl (fun K hK => ?_) AllReadyH.nil
                go_simp
                go_wp2_with (refine (q8 _).mono ?_; rintro r xn ⟨rfl, hc⟩)
                have VB := VB.below hc
                refine hK.out _ _ (hHeld.trans (hc.mono hHeld.size)) (fun hHeld => ?_)
                clear hK K hc
                refine wpAnyH_ready (rs := [20]) (by kernel_rfl) (by simp) ?_
                refine AllReadyH.cons rfl (fun K hK => ?_) AllReadyH.nil
                go_simp
                go_wp2_with (refine (q9 _).mono ?_; rintro r xn ⟨rfl, hc⟩)
                have VB := VB.below hc
                refine hK.out _ _ (hHeld.trans (hc.mono hHeld.size)) (fun hHeld => ?_)
                clear hK K hc
                refine wpAnyH_ready (rs := [21]) (by kernel_rfl) (by simp) ?_
                refine AllReadyH.cons rfl (fun K hK => ?_) AllReadyH.nil
                rw [if_pos (by rfl)]
                refine wp_build_head n r _ _ _ _ _ _ _ _ _ _ rfl rfl rfl rfl rfl rfl rfl rfl rfl rfl rfl ?_
                refine hK.out _ _ hHeld (fun hHeld => ?_)
                clear hK K
                try simp only [List.getElem_toArray]
                try simp only [List.getElem_cons_succ]
                try simp only [List.getElem_cons_zero]
                try simp only [Act.put]
                try simp only [List.setIfInBounds_toArray]
                try simp only [List.set_cons_succ]
                try simp only [List.set_cons_zero]
                refine wpAnyH_ready (rs := [23]) (by kernel_rfl) (by simp) ?_
                refine AllReadyH.cons rfl (fun K hK => ?_) AllReadyH.nil
                rw [if_pos (by rfl)]
                refine wp_store_mid 35 _ _ rfl _ 0 (pkc (Pk.head n r)) rfl rfl (VB.there 0 _ (by rw [pkc_size, pkc_size]; decide)) (by rw [pkc_size]; exact size35) (pkc_one _) ?_
                have VC := VB.setCells (pkc (Pk.head n r)).toList 0
                rw [pkc_put_all] at VC
                refine hK.out _ _ (below_cells hle _ 0 hHeld) (fun hHeld => ?_)
                clear hK K
                try simp only [List.getElem_toArray]
                try simp only [List.getElem_cons_succ]
                try simp only [List.getElem_cons_zero]
                try simp only [Act.put]
                try simp only [List.setIfInBounds_toArray]
                try simp only [List.set_cons_succ]
                try simp only [List.set_cons_zero]
                refine wpAnyH_done (by kernel_rfl) ?_ _
                go_wp2_with fail
                go_meet
                exact ⟨_, rfl, hle, VC, hHeld⟩
            · rw [if_pos (by rfl)]
              refine wp_alloc_pk rfl ?_
              have hle := hHeld.size
              have VB := blk_after hHeld (pkc Pk.zero) 35
              refine hK.out _ _ (hHeld.alloc hHeld.size _) (fun hHeld => ?_)
              clear hK K
              try simp only [List.getElem_toArray]
              try simp only [List.getElem_cons_succ]
              try simp only [List.getElem_cons_zero]
              try simp only [Act.put]
              try simp only [List.setIfInBounds_toArray]
              try simp only [List.set_cons_succ]
              try simp only [List.set_cons_zero]
              refine wpAnyH_ready (rs := [9]) (by kernel_rfl) (by simp) ?_
              refine AllReadyH.cons rfl (fun K hK => ?_) AllReadyH.nil
              go_simp
              go_wp2_with (refine (q4 _).mono ?_; rintro r xn ⟨rfl, hc⟩)
              have VB := VB.below hc
              refine hK.out _ _ (hHeld.trans (hc.mono hHeld.size)) (fun hHeld => ?_)
              clear hK K hc
              refine wpAnyH_ready (rs := [11]) (by kernel_rfl) (by simp) ?_
              refine AllReadyH.cons rfl (fun K hK => ?_) AllReadyH.nil
              go_simp
              go_wp2_with (refine (q5 _).mono ?_; rintro r xn ⟨rfl, hc⟩)
              have VB := VB.below hc
              refine hK.out _ _ (hHeld.trans (hc.mono hHeld.size)) (fun hHeld => ?_)
              clear hK K hc
              refine wpAnyH_ready (rs := [13]) (by kernel_rfl) (by simp) ?_
              refine AllReadyH.cons rfl (fun K hK => ?_) AllReadyH.nil
              go_simp
              go_wp2_with (refine (q6 _).mono ?_; rintro r xn ⟨rfl, hc⟩)
              have VB := VB.below hc
              refine hK.out _ _ (hHeld.trans (hc.mono hHeld.size)) (fun hHeld => ?_)
              clear hK K hc
              refine wpAnyH_ready (rs := [18]) (by kernel_rfl) (by simp) ?_
              refine AllReadyH.cons rfl (fun K hK => ?_) AllReadyH.nil
              go_simp
              go_wp2_with (refine (q8 _).mono ?_; rintro r xn ⟨rfl, hc⟩)
              have VB := VB.below hc
              refine hK.out _ _ (hHeld.trans (hc.mono hHeld.size)) (fun hHeld => ?_)
              clear hK K hc
              refine wpAnyH_ready (rs := [20]) (by kernel_rfl) (by simp) ?_
              refine AllReadyH.cons rfl (fun K hK => ?_) AllReadyH.nil
              go_simp
              go_wp2_with (refine (q9 _).mono ?_; rintro r xn ⟨rfl, hc⟩)
              have VB := VB.below hc
              refine hK.out _ _ (hHeld.trans (hc.mono hHeld.size)) (fun hHeld => ?_)
              clear hK K hc
              refine wpAnyH_ready (rs := [21]) (by kernel_rfl) (by simp) ?_
              refine AllReadyH.cons rfl (fun K hK => ?_) AllReadyH.nil
              rw [if_pos (by rfl)]
              refine wp_build_head n r _ _ _ _ _ _ _ _ _ _ rfl rfl rfl rfl rfl rfl rfl rfl rfl rfl rfl ?_
              refine hK.out _ _ hHeld (fun hHeld => ?_)
              clear hK K
              try simp only [List.getElem_toArray]
              try simp only [List.getElem_cons_succ]
              try simp only [List.getElem_cons_zero]
              try simp only [Act.put]
              try simp only [List.setIfInBounds_toArray]
              try simp only [List.set_cons_succ]
              try simp only [List.set_cons_zero]
              refine wpAnyH_ready (rs := [23]) (by kernel_rfl) (by simp) ?_
              refine AllReadyH.cons rfl (fun K hK => ?_) AllReadyH.nil
              rw [if_pos (by rfl)]
              refine wp_store_mid 35 _ _ rfl _ 0 (pkc (Pk.head n r)) rfl rfl (VB.there 0 _ (by rw [pkc_size, pkc_size]; decide)) (by rw [pkc_size]; exact size35) (pkc_one _) ?_
              have VC := VB.setCells (pkc (Pk.head n r)).toList 0
              rw [pkc_put_all] at VC
              refine hK.out _ _ (below_cells hle _ 0 hHeld) (fun hHeld => ?_)
              clear hK K
              try simp only [List.getElem_toArray]
              try simp only [List.getElem_cons_succ]
              try simp only [List.getElem_cons_zero]
              try simp only [Act.put]
              try simp only [List.setIfInBounds_toArray]
              try simp only [List.set_cons_succ]
              try simp only [List.set_cons_zero]
              refine wpAnyH_done (by kernel_rfl) ?_ _
              go_wp2_with fail
              go_meet
              exact ⟨_, rfl, hle, VC, hHeld⟩
          · rw [if_pos (by rfl)]
            refine wp_alloc_pk rfl ?_
            have hle := hHeld.size
            have VB := blk_after hHeld (pkc Pk.zero) 35
            refine hK.out _ _ (hHeld.alloc hHeld.size _) (fun hHeld => ?_)
            clear hK K
            try simp only [List.getElem_toArray]
            try simp only [List.getElem_cons_succ]
            try simp only [List.getElem_cons_zero]
            try simp only [Act.put]
            try simp only [List.setIfInBounds_toArray]
            try simp only [List.set_cons_succ]
            try simp only [List.set_cons_zero]
            refine wpAnyH_ready (rs := [7]) (by kernel_rfl) (by simp) ?_
            refine AllReadyH.cons rfl (fun K hK => ?_) AllReadyH.nil
            go_simp
            go_wp2_with (refine (q3 _).mono ?_; rintro r xn ⟨rfl, hc⟩)
            have VB := VB.below hc
            refine hK.out _ _ (hHeld.trans (hc.mono hHeld.size)) (fun hHeld => ?_)
            clear hK K hc
            refine wpAnyH_ready (rs := [9]) (by kernel_rfl) (by simp) ?_
            refine AllReadyH.cons rfl (fun K hK => ?_) AllReadyH.nil
            go_simp
            go_wp2_with (refine (q4 _).mono ?_; rintro r xn ⟨rfl, hc⟩)
            have VB := VB.below hc
            refine hK.out _ _ (hHeld.trans (hc.mono hHeld.size)) (fun hHeld => ?_)
            clear hK K hc
            refine wpAnyH_ready (rs := [11]) (by kernel_rfl) (by simp) ?_
            refine AllReadyH.cons rfl (fun K hK => ?_) AllReadyH.nil
            go_simp
            go_wp2_with (refine (q5 _).mono ?_; rintro r xn ⟨rfl, hc⟩)
            have VB := VB.below hc
            refine hK.out _ _ (hHeld.trans (hc.mono hHeld.size)) (fun hHeld => ?_)
            clear hK K hc
            refine wpAnyH_ready (rs := [13]) (by kernel_rfl) (by simp) ?_
            refine AllReadyH.cons rfl (fun K hK => ?_) AllReadyH.nil
            go_simp
            go_wp2_with (refine (q6 _).mono ?_; rintro r xn ⟨rfl, hc⟩)
            have VB := VB.below hc
            refine hK.out _ _ (hHeld.trans (hc.mono hHeld.size)) (fun hHeld => ?_)
            clear hK K hc
            refine wpAnyH_ready (rs := [18]) (by kernel_rfl) (by simp) ?_
            refine AllReadyH.cons rfl (fun K hK => ?_) AllReadyH.nil
            go_simp
            go_wp2_with (refine (q8 _).mono ?_; rintro r xn ⟨rfl, hc⟩)
            have VB := VB.below hc
            refine hK.out _ _ (hHeld.trans (hc.mono hHeld.size)) (fun hHeld => ?_)
            clear hK K hc
            refine wpAnyH_ready (rs := [20]) (by kernel_rfl) (by simp) ?_
            refine AllReadyH.cons rfl (fun K hK => ?_) AllReadyH.nil
            go_simp
            go_wp2_with (refine (q9 _).mono ?_; rintro r xn ⟨rfl, hc⟩)
            have VB := VB.below hc
            refine hK.out _ _ (hHeld.trans (hc.mono hHeld.size)) (fun hHeld => ?_)
            clear hK K hc
            refine wpAnyH_ready (rs := [21]) (by kernel_rfl) (by simp) ?_
            refine AllReadyH.cons rfl (fun K hK => ?_) AllReadyH.nil
            rw [if_pos (by rfl)]
            refine wp_build_head n r _ _ _ _ _ _ _ _ _ _ rfl rfl rfl rfl rfl rfl rfl rfl rfl rfl rfl ?_
            refine hK.out _ _ hHeld (fun hHeld => ?_)
            clear hK K
            try simp only [List.getElem_toArray]
            try simp only [List.getElem_cons_succ]
            try simp only [List.getElem_cons_zero]
            try simp only [Act.put]
            try simp only [List.setIfInBounds_toArray]
            try simp only [List.set_cons_succ]
            try simp only [List.set_cons_zero]
            refine wpAnyH_ready (rs := [23]) (by kernel_rfl) (by simp) ?_
            refine AllReadyH.cons rfl (fun K hK => ?_) AllReadyH.nil
            rw [if_pos (by rfl)]
            refine wp_store_mid 35 _ _ rfl _ 0 (pkc (Pk.head n r)) rfl rfl (VB.there 0 _ (by rw [pkc_size, pkc_size]; decide)) (by rw [pkc_size]; exact size35) (pkc_one _) ?_
            have VC := VB.setCells (pkc (Pk.head n r)).toList 0
            rw [pkc_put_all] at VC
            refine hK.out _ _ (below_cells hle _ 0 hHeld) (fun hHeld => ?_)
            clear hK K
            try simp only [List.getElem_toArray]
            try simp only [List.getElem_cons_succ]
            try simp only [List.getElem_cons_zero]
            try simp only [Act.put]
            try simp only [List.setIfInBounds_toArray]
            try simp only [List.set_cons_succ]
            try simp only [List.set_cons_zero]
            refine wpAnyH_done (by kernel_rfl) ?_ _
            go_wp2_with fail
            go_meet
            exact ⟨_, rfl, hle, VC, hHeld⟩
        · rw [if_pos (by rfl)]
          refine wp_alloc_pk rfl ?_
          have hle := hHeld.size
          have VB := blk_after hHeld (pkc Pk.zero) 35
          refine hK.out _ _ (hHeld.alloc hHeld.size _) (fun hHeld => ?_)
          clear hK K
          try simp only [List.getElem_toArray]
          try simp only [List.getElem_cons_succ]
          try simp only [List.getElem_cons_zero]
          try simp only [Act.put]
          try simp only [List.setIfInBounds_toArray]
          try simp only [List.set_cons_succ]
          try simp only [List.set_cons_zero]
          refine wpAnyH_ready (rs := [5]) (by kernel_rfl) (by simp) ?_
          refine AllReadyH.cons rfl (fun K hK => ?_) AllReadyH.nil
          go_simp
          go_wp2_with (refine (q2 _).mono ?_; rintro r xn ⟨rfl, hc⟩)
          have VB := VB.below hc
          refine hK.out _ _ (hHeld.trans (hc.mono hHeld.size)) (fun hHeld => ?_)
          clear hK K hc
          refine wpAnyH_ready (rs := [7]) (by kernel_rfl) (by simp) ?_
          refine AllReadyH.cons rfl (fun K hK => ?_) AllReadyH.nil
          go_simp
          go_wp2_with (refine (q3 _).mono ?_; rintro r xn ⟨rfl, hc⟩)
          have VB := VB.below hc
          refine hK.out _ _ (hHeld.trans (hc.mono hHeld.size)) (fun hHeld => ?_)
          clear hK K hc
          refine wpAnyH_ready (rs := [9]) (by kernel_rfl) (by simp) ?_
          refine AllReadyH.cons rfl (fun K hK => ?_) AllReadyH.nil
          go_simp
          go_wp2_with (refine (q4 _).mono ?_; rintro r xn ⟨rfl, hc⟩)
          have VB := VB.below hc
          refine hK.out _ _ (hHeld.trans (hc.mono hHeld.size)) (fun hHeld => ?_)
          clear hK K hc
          refine wpAnyH_ready (rs := [11]) (by kernel_rfl) (by simp) ?_
          refine AllReadyH.cons rfl (fun K hK => ?_) AllReadyH.nil
          go_simp
          go_wp2_with (refine (q5 _).mono ?_; rintro r xn ⟨rfl, hc⟩)
          have VB := VB.below hc
          refine hK.out _ _ (hHeld.trans (hc.mono hHeld.size)) (fun hHeld => ?_)
          clear hK K hc
          refine wpAnyH_ready (rs := [13]) (by kernel_rfl) (by simp) ?_
          refine AllReadyH.cons rfl (fun K hK => ?_) AllReadyH.nil
          go_simp
          go_wp2_with (refine (q6 _).mono ?_; rintro r xn ⟨rfl, hc⟩)
          have VB := VB.below hc
          refine hK.out _ _ (hHeld.trans (hc.mono hHeld.size)) (fun hHeld => ?_)
          clear hK K hc
          refine wpAnyH_ready (rs := [18]) (by kernel_rfl) (by simp) ?_
          refine AllReadyH.cons rfl (fun K hK => ?_) AllReadyH.nil
          go_simp
          go_wp2_with (refine (q8 _).mono ?_; rintro r xn ⟨rfl, hc⟩)
          have VB := VB.below hc
          refine hK.out _ _ (hHeld.trans (hc.mono hHeld.size)) (fun hHeld => ?_)
          clear hK K hc
          refine wpAnyH_ready (rs := [20]) (by kernel_rfl) (by simp) ?_
          refine AllReadyH.cons rfl (fun K hK => ?_) AllReadyH.nil
          go_simp
          go_wp2_with (refine (q9 _).mono ?_; rintro r xn ⟨rfl, hc⟩)
          have VB := VB.below hc
          refine hK.out _ _ (hHeld.trans (hc.mono hHeld.size)) (fun hHeld => ?_)
          clear hK K hc
          refine wpAnyH_ready (rs := [21]) (by kernel_rfl) (by simp) ?_
          refine AllReadyH.cons rfl (fun K hK => ?_) AllReadyH.nil
          rw [if_pos (by rfl)]
          refine wp_build_head n r _ _ _ _ _ _ _ _ _ _ rfl rfl rfl rfl rfl rfl rfl rfl rfl rfl rfl ?_
          refine hK.out _ _ hHeld (fun hHeld => ?_)
          clear hK K
          try simp only [List.getElem_toArray]
          try simp only [List.getElem_cons_succ]
          try simp only [List.getElem_cons_zero]
          try simp only [Act.put]
          try simp only [List.setIfInBounds_toArray]
          try simp only [List.set_cons_succ]
          try simp only [List.set_cons_zero]
          refine wpAnyH_ready (rs := [23]) (by kernel_rfl) (by simp) ?_
          refine AllReadyH.cons rfl (fun K hK => ?_) AllReadyH.nil
          rw [if_pos (by rfl)]
          refine wp_store_mid 35 _ _ rfl _ 0 (pkc (Pk.head n r)) rfl rfl (VB.there 0 _ (by rw [pkc_size, pkc_size]; decide)) (by rw [pkc_size]; exact size35) (pkc_one _) ?_
          have VC := VB.setCells (pkc (Pk.head n r)).toList 0
          rw [pkc_put_all] at VC
          refine hK.out _ _ (below_cells hle _ 0 hHeld) (fun hHeld => ?_)
          clear hK K
          try simp only [List.getElem_toArray]
          try simp only [List.getElem_cons_succ]
          try simp only [List.getElem_cons_zero]
          try simp only [Act.put]
          try simp only [List.setIfInBounds_toArray]
          try simp only [List.set_cons_succ]
          try simp only [List.set_cons_zero]
          refine wpAnyH_done (by kernel_rfl) ?_ _
          go_wp2_with fail
          go_meet
          exact ⟨_, rfl, hle, VC, hHeld⟩
      · rw [if_pos (by rfl)]
        refine wp_alloc_pk rfl ?_
        have hle := hHeld.size
        have VB := blk_after hHeld (pkc Pk.zero) 35
        refine hK.out _ _ (hHeld.alloc hHeld.size _) (fun hHeld => ?_)
        clear hK K
        try simp only [List.getElem_toArray]
        try simp only [List.getElem_cons_succ]
        try simp only [List.getElem_cons_zero]
        try simp only [Act.put]
        try simp only [List.setIfInBounds_toArray]
        try simp only [List.set_cons_succ]
        try simp only [List.set_cons_zero]
        refine wpAnyH_ready (rs := [3]) (by kernel_rfl) (by simp) ?_
        refine AllReadyH.cons rfl (fun K hK => ?_) AllReadyH.nil
        go_simp
        go_wp2_with (refine (q1 _).mono ?_; rintro r xn ⟨rfl, hc⟩)
        have VB := VB.below hc
        refine hK.out _ _ (hHeld.trans (hc.mono hHeld.size)) (fun hHeld => ?_)
        clear hK K hc
        refine wpAnyH_ready (rs := [5]) (by kernel_rfl) (by simp) ?_
        refine AllReadyH.cons rfl (fun K hK => ?_) AllReadyH.nil
        go_simp
        go_wp2_with (refine (q2 _).mono ?_; rintro r xn ⟨rfl, hc⟩)
        have VB := VB.below hc
        refine hK.out _ _ (hHeld.trans (hc.mono hHeld.size)) (fun hHeld => ?_)
        clear hK K hc
        refine wpAnyH_ready (rs := [7]) (by kernel_rfl) (by simp) ?_
        refine AllReadyH.cons rfl (fun K hK => ?_) AllReadyH.nil
        go_simp
        go_wp2_with (refine (q3 _).mono ?_; rintro r xn ⟨rfl, hc⟩)
        have VB := VB.below hc
        refine hK.out _ _ (hHeld.trans (hc.mono hHeld.size)) (fun hHeld => ?_)
        clear hK K hc
        refine wpAnyH_ready (rs := [9]) (by kernel_rfl) (by simp) ?_
        refine AllReadyH.cons rfl (fun K hK => ?_) AllReadyH.nil
        go_simp
        go_wp2_with (refine (q4 _).mono ?_; rintro r xn ⟨rfl, hc⟩)
        have VB := VB.below hc
        refine hK.out _ _ (hHeld.trans (hc.mono hHeld.size)) (fun hHeld => ?_)
        clear hK K hc
        refine wpAnyH_ready (rs := [11]) (by kernel_rfl) (by simp) ?_
        refine AllReadyH.cons rfl (fun K hK => ?_) AllReadyH.nil
        go_simp
        go_wp2_with (refine (q5 _).mono ?_; rintro r xn ⟨rfl, hc⟩)
        have VB := VB.below hc
        refine hK.out _ _ (hHeld.trans (hc.mono hHeld.size)) (fun hHeld => ?_)
        clear hK K hc
        refine wpAnyH_ready (rs := [13]) (by kernel_rfl) (by simp) ?_
        refine AllReadyH.cons rfl (fun K hK => ?_) AllReadyH.nil
        go_simp
        go_wp2_with (refine (q6 _).mono ?_; rintro r xn ⟨rfl, hc⟩)
        have VB := VB.below hc
        refine hK.out _ _ (hHeld.trans (hc.mono hHeld.size)) (fun hHeld => ?_)
        clear hK K hc
        refine wpAnyH_ready (rs := [18]) (by kernel_rfl) (by simp) ?_
        refine AllReadyH.cons rfl (fun K hK => ?_) AllReadyH.nil
        go_simp
        go_wp2_with (refine (q8 _).mono ?_; rintro r xn ⟨rfl, hc⟩)
        have VB := VB.below hc
        refine hK.out _ _ (hHeld.trans (hc.mono hHeld.size)) (fun hHeld => ?_)
        clear hK K hc
        refine wpAnyH_ready (rs := [20]) (by kernel_rfl) (by simp) ?_
        refine AllReadyH.cons rfl (fun K hK => ?_) AllReadyH.nil
        go_simp
        go_wp2_with (refine (q9 _).mono ?_; rintro r xn ⟨rfl, hc⟩)
        have VB := VB.below hc
        refine hK.out _ _ (hHeld.trans (hc.mono hHeld.size)) (fun hHeld => ?_)
        clear hK K hc
        refine wpAnyH_ready (rs := [21]) (by kernel_rfl) (by simp) ?_
        refine AllReadyH.cons rfl (fun K hK => ?_) AllReadyH.nil
        rw [if_pos (by rfl)]
        refine wp_build_head n r _ _ _ _ _ _ _ _ _ _ rfl rfl rfl rfl rfl rfl rfl rfl rfl rfl rfl ?_
        refine hK.out _ _ hHeld (fun hHeld => ?_)
        clear hK K
        try simp only [List.getElem_toArray]
        try simp only [List.getElem_cons_succ]
        try simp only [List.getElem_cons_zero]
        try simp only [Act.put]
        try simp only [List.setIfInBounds_toArray]
        try simp only [List.set_cons_succ]
        try simp only [List.set_cons_zero]
        refine wpAnyH_ready (rs := [23]) (by kernel_rfl) (by simp) ?_
        refine AllReadyH.cons rfl (fun K hK => ?_) AllReadyH.nil
        rw [if_pos (by rfl)]
        refine wp_store_mid 35 _ _ rfl _ 0 (pkc (Pk.head n r)) rfl rfl (VB.there 0 _ (by rw [pkc_size, pkc_size]; decide)) (by rw [pkc_size]; exact size35) (pkc_one _) ?_
        have VC := VB.setCells (pkc (Pk.head n r)).toList 0
        rw [pkc_put_all] at VC
        refine hK.out _ _ (below_cells hle _ 0 hHeld) (fun hHeld => ?_)
        clear hK K
        try simp only [List.getElem_toArray]
        try simp only [List.getElem_cons_succ]
        try simp only [List.getElem_cons_zero]
        try simp only [Act.put]
        try simp only [List.setIfInBounds_toArray]
        try simp only [List.set_cons_succ]
        try simp only [List.set_cons_zero]
        refine wpAnyH_done (by kernel_rfl) ?_ _
        go_wp2_with fail
        go_meet
        exact ⟨_, rfl, hle, VC, hHeld⟩
    · rw [if_pos (by rfl)]
      refine wp_alloc_pk rfl ?_
      have hle := hHeld.size
      have VB := blk_after hHeld (pkc Pk.zero) 35
      refine hK.out _ _ (hHeld.alloc hHeld.size _) (fun hHeld => ?_)
      clear hK K
      try simp only [List.getElem_toArray]
      try simp only [List.getElem_cons_succ]
      try simp only [List.getElem_cons_zero]
      try simp only [Act.put]
      try simp only [List.setIfInBounds_toArray]
      try simp only [List.set_cons_succ]
      try simp only [List.set_cons_zero]
      refine wpAnyH_ready (rs := [1]) (by kernel_rfl) (by simp) ?_
      refine AllReadyH.cons rfl (fun K hK => ?_) AllReadyH.nil
      go_simp
      go_wp2_with (refine (q0 _).mono ?_; rintro r xn ⟨rfl, hc⟩)
      have VB := VB.below hc
      refine hK.out _ _ (hHeld.trans (hc.mono hHeld.size)) (fun hHeld => ?_)
      clear hK K hc
      refine wpAnyH_ready (rs := [3]) (by kernel_rfl) (by simp) ?_
      refine AllReadyH.cons rfl (fun K hK => ?_) AllReadyH.nil
      go_simp
      go_wp2_with (refine (q1 _).mono ?_; rintro r xn ⟨rfl, hc⟩)
      have VB := VB.below hc
      refine hK.out _ _ (hHeld.trans (hc.mono hHeld.size)) (fun hHeld => ?_)
      clear hK K hc
      refine wpAnyH_ready (rs := [5]) (by kernel_rfl) (by simp) ?_
      refine AllReadyH.cons rfl (fun K hK => ?_) AllReadyH.nil
      go_simp
      go_wp2_with (refine (q2 _).mono ?_; rintro r xn ⟨rfl, hc⟩)
      have VB := VB.below hc
      refine hK.out _ _ (hHeld.trans (hc.mono hHeld.size)) (fun hHeld => ?_)
      clear hK K hc
      refine wpAnyH_ready (rs := [7]) (by kernel_rfl) (by simp) ?_
      refine AllReadyH.cons rfl (fun K hK => ?_) AllReadyH.nil
      go_simp
      go_wp2_with (refine (q3 _).mono ?_; rintro r xn ⟨rfl, hc⟩)
      have VB := VB.below hc
      refine hK.out _ _ (hHeld.trans (hc.mono hHeld.size)) (fun hHeld => ?_)
      clear hK K hc
      refine wpAnyH_ready (rs := [9]) (by kernel_rfl) (by simp) ?_
      refine AllReadyH.cons rfl (fun K hK => ?_) AllReadyH.nil
      go_simp
      go_wp2_with (refine (q4 _).mono ?_; rintro r xn ⟨rfl, hc⟩)
      have VB := VB.below hc
      refine hK.out _ _ (hHeld.trans (hc.mono hHeld.size)) (fun hHeld => ?_)
      clear hK K hc
      refine wpAnyH_ready (rs := [11]) (by kernel_rfl) (by simp) ?_
      refine AllReadyH.cons rfl (fun K hK => ?_) AllReadyH.nil
      go_simp
      go_wp2_with (refine (q5 _).mono ?_; rintro r xn ⟨rfl, hc⟩)
      have VB := VB.below hc
      refine hK.out _ _ (hHeld.trans (hc.mono hHeld.size)) (fun hHeld => ?_)
      clear hK K hc
      refine wpAnyH_ready (rs := [13]) (by kernel_rfl) (by simp) ?_
      refine AllReadyH.cons rfl (fun K hK => ?_) AllReadyH.nil
      go_simp
      go_wp2_with (refine (q6 _).mono ?_; rintro r xn ⟨rfl, hc⟩)
      have VB := VB.below hc
      refine hK.out _ _ (hHeld.trans (hc.mono hHeld.size)) (fun hHeld => ?_)
      clear hK K hc
      refine wpAnyH_ready (rs := [18]) (by kernel_rfl) (by simp) ?_
      refine AllReadyH.cons rfl (fun K hK => ?_) AllReadyH.nil
      go_simp
      go_wp2_with (refine (q8 _).mono ?_; rintro r xn ⟨rfl, hc⟩)
      have VB := VB.below hc
      refine hK.out _ _ (hHeld.trans (hc.mono hHeld.size)) (fun hHeld => ?_)
      clear hK K hc
      refine wpAnyH_ready (rs := [20]) (by kernel_rfl) (by simp) ?_
      refine AllReadyH.cons rfl (fun K hK => ?_) AllReadyH.nil
      go_simp
      go_wp2_with (refine (q9 _).mono ?_; rintro r xn ⟨rfl, hc⟩)
      have VB := VB.below hc
      refine hK.out _ _ (hHeld.trans (hc.mono hHeld.size)) (fun hHeld => ?_)
      clear hK K hc
      refine wpAnyH_ready (rs := [21]) (by kernel_rfl) (by simp) ?_
      refine AllReadyH.cons rfl (fun K hK => ?_) AllReadyH.nil
      rw [if_pos (by rfl)]
      refine wp_build_head n r _ _ _ _ _ _ _ _ _ _ rfl rfl rfl rfl rfl rfl rfl rfl rfl rfl rfl ?_
      refine hK.out _ _ hHeld (fun hHeld => ?_)
      clear hK K
      try simp only [List.getElem_toArray]
      try simp only [List.getElem_cons_succ]
      try simp only [List.getElem_cons_zero]
      try simp only [Act.put]
      try simp only [List.setIfInBounds_toArray]
      try simp only [List.set_cons_succ]
      try simp only [List.set_cons_zero]
      refine wpAnyH_ready (rs := [23]) (by kernel_rfl) (by simp) ?_
      refine AllReadyH.cons rfl (fun K hK => ?_) AllReadyH.nil
      rw [if_pos (by rfl)]
      refine wp_store_mid 35 _ _ rfl _ 0 (pkc (Pk.head n r)) rfl rfl (VB.there 0 _ (by rw [pkc_size, pkc_size]; decide)) (by rw [pkc_size]; exact size35) (pkc_one _) ?_
      have VC := VB.setCells (pkc (Pk.head n r)).toList 0
      rw [pkc_put_all] at VC
      refine hK.out _ _ (below_cells hle _ 0 hHeld) (fun hHeld => ?_)
      clear hK K
      try simp only [List.getElem_toArray]
      try simp only [List.getElem_cons_succ]
      try simp only [List.getElem_cons_zero]
      try simp only [Act.put]
      try simp only [List.setIfInBounds_toArray]
      try simp only [List.set_cons_succ]
      try simp only [List.set_cons_zero]
      refine wpAnyH_done (by kernel_rfl) ?_ _
      go_wp2_with fail
      go_meet
      exact ⟨_, rfl, hle, VC, hHeld⟩
  case rest =>
    obtain ⟨V, rfl, hle, V2, hb2⟩ := hcut
    have hAV : w.heap.size ≠ V := by have := A1.lt; omega
    have hNV : N ≠ V := by have := N1.lt; omega
    have hle2 : w.heap.size ≤ V := by have := A1.lt; omega
    have A2 := A1.below hb2
    have N2 := N1.below hb2
    have b2 := b1.trans (hb2.mono b1.size)
    clear hb2 A1 N1 b1 q0 q1 q2 q3 q4 q5 q6 q8 q9 hle
    go_wp2_with fail
    refine (k0 _).mono ?_
    rintro e w3 ⟨rfl, hb3⟩
    obtain ⟨W3, hW3⟩ : ∃ W, w3.alloc (.cells (frc G0) 33) = W := ⟨_, rfl⟩
    have A3 : Blk w.heap.size (pkc Pk.zero) 35 W3 := by rw [← hW3]; exact (A2.below hb3).alloc _
    have N3 : Blk N (pkc Pk.zero) 35 W3 := by rw [← hW3]; exact (N2.below hb3).alloc _
    have V3 : Blk V (pkc (Pk.head n r)) 35 W3 := by rw [← hW3]; exact (V2.below hb3).alloc _
    have E0_3 : Blk w3.heap.size (frc G0) 33 W3 := by rw [← hW3]; exact blk_new w3 _ _
    have hv0 : w3.heap.size ≠ V := by have := (V2.below hb3).lt; omega
    have b3 : Below w.heap.size w W3 := by
      rw [← hW3]
      exact (b2.trans (hb3.mono b2.size)).alloc (Nat.le_trans b2.size hb3.size) _
    clear A2 N2 V2 b2 hb3 k0 z0 
    go_wp2_with (first | refine alloc_fr rfl rfl ?_ | (refine store_new (cells := frc G0) rfl 33 _ _ rfl rfl rfl (by rw [frc_size]; exact size27) (by rw [frc_size, frc_size]) (frc_one _) ?_; rw [hW3]))
    clear hW3
    refine (k1 _).mono ?_
    rintro e w4 ⟨rfl, hb4⟩
    obtain ⟨W4, hW4⟩ : ∃ W, w4.alloc (.cells (frc G1) 33) = W := ⟨_, rfl⟩
    have A4 : Blk w.heap.size (pkc Pk.zero) 35 W4 := by rw [← hW4]; exact (A3.below hb4).alloc _
    have N4 : Blk N (pkc Pk.zero) 35 W4 := by rw [← hW4]; exact (N3.below hb4).alloc _
    have V4 : Blk V (pkc (Pk.head n r)) 35 W4 := by rw [← hW4]; exact (V3.below hb4).alloc _
    have E1_4 : Blk w4.heap.size (frc G1) 33 W4 := by rw [← hW4]; exact blk_new w4 _ _
    have hv1 : w4.heap.size ≠ V := by have := (V3.below hb4).lt; omega
    have b4 : Below w.heap.size w W4 := by
      rw [← hW4]
      exact (b3.trans (hb4.mono b3.size)).alloc (Nat.le_trans b3.size hb4.size) _
    have E0_4 : Blk w3.heap.size (frc G0) 33 W4 := by rw [← hW4]; exact (E0_3.below hb4).alloc _
    clear A3 N3 V3 b3 hb4 k1 z1 E0_3
    go_wp2_with (first | refine alloc_fr rfl rfl ?_ | (refine store_new (cells := frc G1) rfl 33 _ _ rfl rfl rfl (by rw [frc_size]; exact size27) (by rw [frc_size, frc_size]) (frc_one _) ?_; rw [hW4]))
    clear hW4
    refine (k2 _).mono ?_
    rintro e w5 ⟨rfl, hb5⟩
    obtain ⟨W5, hW5⟩ : ∃ W, w5.alloc (.cells (frc G2) 33) = W := ⟨_, rfl⟩
    have A5 : Blk w.heap.size (pkc Pk.zero) 35 W5 := by rw [← hW5]; exact (A4.below hb5).alloc _
    have N5 : Blk N (pkc Pk.zero) 35 W5 := by rw [← hW5]; exact (N4.below hb5).alloc _
    have V5 : Blk V (pkc (Pk.head n r)) 35 W5 := by rw [← hW5]; exact (V4.below hb5).alloc _
    have E2_5 : Blk w5.heap.size (frc G2) 33 W5 := by rw [← hW5]; exact blk_new w5 _ _
    have hv2 : w5.heap.size ≠ V := by have := (V4.below hb5).lt; omega
    have b5 : Below w.heap.size w W5 := by
      rw [← hW5]
      exact (b4.trans (hb5.mono b4.size)).alloc (Nat.le_trans b4.size hb5.size) _
    have E0_5 : Blk w3.heap.size (frc G0) 33 W5 := by rw [← hW5]; exact (E0_4.below hb5).alloc _
    have E1_5 : Blk w4.heap.size (frc G1) 33 W5 := by rw [← hW5]; exact (E1_4.below hb5).alloc _
    clear A4 N4 V4 b4 hb5 k2 z2 E0_4 E1_4
    go_wp2_with (first
      | refine alloc_fr rfl rfl ?_
      | (refine store_new (cells := frc G2) rfl 33 _ _ rfl rfl rfl (by rw [frc_size]; exact size27) (by rw [frc_size, frc_size]) (frc_one _) ?_; rw [hW5])
      | refine load_blk rfl 33 _ rfl E0_5 rfl Try.underlying33 rfl (by rw [frc_size]; exact size27) ?_
      | (refine store_part (off := 35) (cells := frc G0) rfl 33 _ _ rfl V5 rfl rfl (by rw [frc_size]; exact size27) (by rw [frc_size, pkc_size]; decide) (frc_one _) ?_; intro X1 V6 u6
         have A6 := A5.but u6 hAV
         have N6 := N5.but u6 hNV
         have E1_6 := E1_5.but u6 hv1
         have E2_6 := E2_5.but u6 hv2
         have b6 := b5.trans (u6.below hle2 b5.size)
         obtain ⟨C6, hC6⟩ : ∃ C, Hid (putAt (pkc (Pk.head n r)) 35 (frc G0).toList = C) := ⟨_, rfl⟩
         rw [hC6.out] at V6
         have s6 : C6.size = 145 := by rw [← hC6.out, putAt_size, pkc_size]
         clear A5 N5 V5 E0_5 E1_5 E2_5 b5 u6 hW5)
      | refine load_blk rfl 33 _ rfl E1_6 rfl Try.underlying33 rfl (by rw [frc_size]; exact size27) ?_
      | (refine store_part (off := 71) (cells := frc G1) rfl 33 _ _ rfl V6 rfl rfl (by rw [frc_size]; exact size27) (by rw [frc_size, s6]; decide) (frc_one _) ?_; intro X2 V7 u7
         have A7 := A6.but u7 hAV
         have N7 := N6.but u7 hNV
         have E2_7 := E2_6.but u7 hv2
         have b7 := b6.trans (u7.below hle2 b6.size)
         obtain ⟨C7, hC7⟩ : ∃ C, Hid (putAt C6 71 (frc G1).toList = C) := ⟨_, rfl⟩
         rw [hC7.out] at V7
         have s7 : C7.size = 145 := by rw [← hC7.out, putAt_size, s6]
         clear A6 N6 V6 E1_6 E2_6 b6 u7)
      | refine load_blk rfl 33 _ rfl E2_7 rfl Try.underlying33 rfl (by rw [frc_size]; exact size27) ?_
      | (refine store_part (off := 109) (cells := frc G2) rfl 33 _ _ rfl V7 rfl rfl (by rw [frc_size]; exact size27) (by rw [frc_size, s7]; decide) (frc_one _) ?_; intro X3 V8 u8
         have A8 := A7.but u8 hAV
         have N8 := N7.but u8 hNV
         have b8 := b7.trans (u8.below hle2 b7.size)
         obtain ⟨C8, hC8⟩ : ∃ C, Hid (putAt C7 109 (frc G2).toList = C) := ⟨_, rfl⟩
         rw [hC8.out] at V8
         have s8 : C8.size = 145 := by rw [← hC8.out, putAt_size, s7]
         clear A7 N7 V7 E2_7 b7 u8))
    refine (q10 _).mono ?_
    rintro e w9 ⟨rfl, hb9⟩
    have A9a := A8.below hb9
    have N9a := N8.below hb9
    have V9a := V8.below hb9
    have b9a := b8.trans (hb9.mono b8.size)
    obtain ⟨v9, ve9⟩ : ∃ v, C8[107]? = some v := ⟨_, Array.getElem?_eq_getElem (by rw [s8]; decide)⟩
    have y9 := V9a.cell 107 v9 ve9
    have f9 := V9a.free 107
    obtain ⟨W9, e9⟩ : ∃ W, w9.setCell ⟨V, 107, none⟩ (.int .u32 (n 107 : Int)) = W := ⟨_, rfl⟩
    obtain ⟨C9, hC9⟩ : ∃ C, Hid (C8.setIfInBounds 107 (.int .u32 (n 107 : Int)) = C) := ⟨_, rfl⟩
    have V9 : Blk V C9 35 W9 := by rw [← e9, ← hC9.out]; exact blk_set V9a 107 _
    have s9 : C9.size = 145 := by rw [← hC9.out, Array.size_setIfInBounds, s8]
    have u9 : But V w9 W9 := by rw [← e9]; exact But.setCell V 107 w9 _
    have A9 := A9a.but u9 hAV
    have N9 := N9a.but u9 hNV
    have b9 := b9a.trans (u9.below hle2 b9a.size)
    clear A9a N9a V9a b9a u9 ve9 A8 N8 V8 b8 hb9 q10
    go_wp2_with fail
    clear y9 f9 e9
    refine (q11 _).mono ?_
    rintro e w10 ⟨rfl, hb10⟩
    have A10a := A9.below hb10
    have N10a := N9.below hb10
    have V10a := V9.below hb10
    have b10a := b9.trans (hb10.mono b9.size)
    obtain ⟨v10, ve10⟩ : ∃ v, C9[108]? = some v := ⟨_, Array.getElem?_eq_getElem (by rw [s9]; decide)⟩
    have y10 := V10a.cell 108 v10 ve10
    have f10 := V10a.free 108
    obtain ⟨W10, e10⟩ : ∃ W, w10.setCell ⟨V, 108, none⟩ (.int .u32 (n 108 : Int)) = W := ⟨_, rfl⟩
    obtain ⟨C10, hC10⟩ : ∃ C, Hid (C9.setIfInBounds 108 (.int .u32 (n 108 : Int)) = C) := ⟨_, rfl⟩
    have V10 : Blk V C10 35 W10 := by rw [← e10, ← hC10.out]; exact blk_set V10a 108 _
    have s10 : C10.size = 145 := by rw [← hC10.out, Array.size_setIfInBounds, s9]
    have u10 : But V w10 W10 := by rw [← e10]; exact But.setCell V 108 w10 _
    have A10 := A10a.but u10 hAV
    have N10 := N10a.but u10 hNV
    have b10 := b10a.trans (u10.below hle2 b10a.size)
    clear A10a N10a V10a b10a u10 ve10 A9 N9 V9 b9 hb10 q11
    have hCP : C10 = pkc P := by
      rw [← hP.out, ← hC10.out, ← hC9.out, ← hC8.out, ← hC7.out, ← hC6.out]
      kernel_rfl
    subst hCP
    have none_end : True := trivial
    clear none_end
    cases g0 : (c0 != 0)
    case true =>
      have hsp : spoilt t c0 c1 c2 = true := by simp [spoilt, g0]
      go_wp2_with (first | refine load_blk rfl 35 _ rfl N10 rfl Try.underlying35 rfl (by rw [pkc_size]; exact size35) ?_ | refine store_same rfl 35 _ _ rfl A10 rfl rfl (by rw [pkc_size]; exact size35) (pkc_one _) ?_)
      refine bodyPost_ret (ret_pk Try.results15 rfl A10 (pkc_size _) rfl) rfl ⟨by rw [← hres.out, hsp]; rfl, b10⟩
    case false =>
      cases g1 : (c1 != 0)
      case true =>
        have hsp : spoilt t c0 c1 c2 = true := by simp [spoilt, g1]
        go_wp2_with (first | refine load_blk rfl 35 _ rfl N10 rfl Try.underlying35 rfl (by rw [pkc_size]; exact size35) ?_ | refine store_same rfl 35 _ _ rfl A10 rfl rfl (by rw [pkc_size]; exact size35) (pkc_one _) ?_)
        refine bodyPost_ret (ret_pk Try.results15 rfl A10 (pkc_size _) rfl) rfl ⟨by rw [← hres.out, hsp]; rfl, b10⟩
      case false =>
        cases g2 : (c2 != 0)
        case true =>
          have hsp : spoilt t c0 c1 c2 = true := by simp [spoilt, g2]
          go_wp2_with (first | refine load_blk rfl 35 _ rfl N10 rfl Try.underlying35 rfl (by rw [pkc_size]; exact size35) ?_ | refine store_same rfl 35 _ _ rfl A10 rfl rfl (by rw [pkc_size]; exact size35) (pkc_one _) ?_)
          refine bodyPost_ret (ret_pk Try.results15 rfl A10 (pkc_size _) rfl) rfl ⟨by rw [← hres.out, hsp]; rfl, b10⟩
        case false =>
          by_cases g3 : 1 < t
          · have g4 : (1 : Int) < (t : Int) := by omega
            have hsp : spoilt t c0 c1 c2 = true := by simp [spoilt, g3]
            clear g3
            go_wp2_with (first | refine load_blk rfl 35 _ rfl N10 rfl Try.underlying35 rfl (by rw [pkc_size]; exact size35) ?_ | refine store_same rfl 35 _ _ rfl A10 rfl rfl (by rw [pkc_size]; exact size35) (pkc_one _) ?_)
            refine bodyPost_ret (ret_pk Try.results15 rfl A10 (pkc_size _) rfl) rfl ⟨by rw [← hres.out, hsp]; rfl, b10⟩
          · have g4 : decide ((1 : Int) < (t : Int)) = false := by simp; omega
            have hsp : spoilt t c0 c1 c2 = false := by simp [spoilt, g0, g1, g2, g3]
            have HSP : Hid (spoilt t c0 c1 c2 = false) := hsp
            clear g3 hsp
            go_wp2_with (refine load_want (by rfl) 35 _ rfl V10 rfl Try.underlying35 rfl (by rw [pkc_size]; exact size35) ?_)
            refine (hck _).mono ?_
            rintro e w11 ⟨rfl, hb11⟩
            have A11 := A10.below hb11
            have N11 := N10.below hb11
            have V11 := V10.below hb11
            have b11 := b10.trans (hb11.mono b10.size)
            clear A10 N10 V10 b10 hb11 hck y10 f10 e10
            cases hm : P.may
            case false =>
              go_wp2_with (first | refine load_blk rfl 35 _ rfl N11 rfl Try.underlying35 rfl (by rw [pkc_size]; exact size35) ?_ | refine store_same rfl 35 _ _ rfl A11 rfl rfl (by rw [pkc_size]; exact size35) (pkc_one _) ?_)
              refine bodyPost_ret (ret_pk Try.results15 rfl A11 (pkc_size _) rfl) rfl ⟨by rw [← hres.out, HSP.out, hm]; rfl, b11⟩
            case true =>
              go_wp2_with (first | refine load_blk rfl 35 _ rfl V11 rfl Try.underlying35 rfl (by rw [pkc_size]; exact size35) ?_ | (refine store_part (off := 0) (cells := pkc P) rfl 35 _ _ rfl A11 rfl rfl (by rw [pkc_size]; exact size35) (by rw [pkc_size, pkc_size]; omega) (pkc_one _) ?_; intro W12 A12 u12))
              rw [pkc_put_all] at A12
              refine bodyPost_ret (ret_pk Try.results15 rfl A12 (pkc_size _) rfl) rfl ⟨by rw [← hres.out, HSP.out, hm]; rfl, b11.trans (u12.below (Nat.le_refl _) b11.size)⟩

end Go.Proofs.Ytmbddjejbmjmfaa
