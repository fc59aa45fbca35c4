/-
  Of the texts beneath these laws, in their order: PkCk, CrcAll.
  Each theorem says its own conditions.
-/
import Derived.Test.YthgfpdidilolgaaGreatZ10
import Derived.Test.YthgfpdidilolgaaGreatZ11
import Derived.WalkKit
import Derived.Laws.BitsAllLaws
import Derived.Test.YthgfpdidilolgaaGreatProg
import Derived.WalkSpells
import Derived.WalkLawsBesides
import Derived.Deep.QuietTactic
import Derived.BigQuiet
import Derived.Lib.QuietBelow
import Derived.Deep.RegionWith
import Derived.Test.YthgfpdidilolgaaGreatZ08
import Derived.BigRegion
namespace Go.Proofs.YthgfpdidilolgaaGreat.Eld
set_option maxRecDepth 10000
open Go.RowKit Go.Sort
set_option maxHeartbeats 1000000 in
theorem areDaemons_gen (B : Nat) (C : Array Value) (T : TypeId) (L : List Nat) (hlen : L.length ≤ 8) (w : World) (hB : Blk B C T w) (hL : ∀ (i x : Nat), L[i]? = some x → C[i]? = some (.int .u32 (x : Int))) (cap : Nat) :
  Calls Tryz.prog 189 #[.slice (some ⟨B, 0, none⟩) L.length cap] w fun e w' => e = .returned (.bool (L.all (· < 8))) ∧ w' = w := by
 obtain ⟨c, hc⟩ : ∃ c : Bool, Hid (L.all (· < 8) = c) := ⟨_, rfl⟩
 rw [hc.out]
 go_enter Tryz.func189, Tryz.ntmps189
 go_wp2_with fail
 go_loop [7] (fun i => ∃ m : Nat, m ≤ L.length ∧ i = .int .i64 m ∧ Hid (∀ (j x : Nat), j < m → L[j]? = some x → x < 8)) (fun i => L.length - (intOf i).toNat)
 case atStart => exact ⟨0, by omega, rfl, fun j x hj => by omega⟩
 case round =>
  obtain ⟨m, hm, rfl, hall⟩ := hrel
  by_cases hlt : m < L.length
  ·have hcell := hB.cell m _ (hL m L[m] (List.getElem?_eq_getElem hlt))
   have hget : Hid (L[m]? = some L[m]) := List.getElem?_eq_getElem hlt
   generalize hxe : L[m] = x at hcell hget
   have HL : Hid (L[m] = x) := hxe
   clear hL hB hxe
   by_cases hx : x < 8
   ·have hx2 : ¬ (8 : Int) ≤ (x : Int) := by omega
    clear hx
    go_wp2_with fail
    go_round
    case measure => simp [intOf]; omega
    refine ⟨m + 1, by omega, by go_num, fun j y hj hy => ?_⟩
    rcases Nat.lt_or_ge j m with h | h
    ·exact hall.out j y h hy
    ·obtain rfl : j = m := by omega
     rw [hget.out] at hy
     cases hy
     omega
   ·have hx2 : (8 : Int) ≤ (x : Int) := by omega
    have hno : c = false := by
     rw [← hc.out]
     cases h : L.all (· < 8)
     ·rfl
     ·have := (List.all_eq_true.1 h) x (List.mem_of_getElem? hget.out)
      simp only [decide_eq_true_eq] at this
      omega
    clear hx
    go_wp2_with fail
    go_ret
    exact ⟨rfl, rfl⟩
  ·have hyes : c = true := by
    rw [← hc.out]
    refine List.all_eq_true.2 fun x hx => ?_
    obtain ⟨j, hj⟩ := List.mem_iff_getElem?.1 hx
    have := hall.out j x (by have := (List.getElem?_eq_some_iff.1 hj).1; omega) hj
    simpa using this
   go_wp2_with fail
   go_ret
   exact ⟨rfl, rfl⟩
theorem areDaemons_ok (a b c d : Nat) (w : World) : Calls Tryz.prog 189 #[.slice (some ⟨w.heap.size, 0, none⟩) 4 4] (w.alloc (.cells #[.int .u32 (a : Int), .int .u32 (b : Int), .int .u32 (c : Int), .int .u32 (d : Int)] 37)) fun e w' =>
  e = .returned (.bool (decide (a < 8) && (decide (b < 8) && (decide (c < 8) && decide (d < 8))))) ∧ w' = w.alloc (.cells #[.int .u32 (a : Int), .int .u32 (b : Int), .int .u32 (c : Int), .int .u32 (d : Int)] 37) := by
 have h := areDaemons_gen w.heap.size #[.int .u32 (a : Int), .int .u32 (b : Int), .int .u32 (c : Int), .int .u32 (d : Int)] 37 [a, b, c, d] (by simp) (w.alloc (.cells #[.int .u32 (a : Int), .int .u32 (b : Int), .int .u32 (c : Int), .int .u32 (d : Int)] 37)) (blk_new w _ _)
  (fun i x hx => by
   match i, hx with
   | 0, hx => cases hx; rfl
   | 1, hx => cases hx; rfl
   | 2, hx => cases hx; rfl
   | 3, hx => cases hx; rfl
   | i + 4, hx => simp at hx) 4
 refine h.mono ?_
 rintro e w' ⟨rfl, rfl⟩
 exact ⟨by simp, rfl⟩
def f3c (F G H : Nat → En) : Array Value := (enCells (Fr.list F) ++ (enCells (Fr.list G) ++ enCells (Fr.list H))).toArray
def sel3 (F G H : Nat → En) (m : Nat) : Nat → En := if m = 0 then F else if m = 1 then G else H
theorem f3c_part (F G H : Nat → En) (m : Nat) (hm : m < 3) : ((f3c F G H).extract (m * 36) (m * 36 + (enCells (Fr.list (sel3 F G H m))).length)).toList = enCells (Fr.list (sel3 F G H m)) := by
 obtain rfl | rfl | rfl : m = 0 ∨ m = 1 ∨ m = 2 := by omega
 all_goals kernel_rfl
theorem bs_frames (F G H : Nat → En) (w : World) : (Instr.buildSlice 68 3 #[(0, .agg (frc F)), (1, .agg (frc G)), (2, .agg (frc H))]).run Tryz.prog w = .ok (.slice (some ⟨w.heap.size, 0, none⟩) 3 3) (w.alloc (.cells (f3c F G H) 43)) := by kernel_rfl
theorem build_frames {ops : Array Oper} {rest : List Oper} {op : Oper} {a : Act} {w : World} {Q : Exit → Act → World → Prop} (hw : Region.wanted op (yielded ops a.tmps) = true) (x y z : Operand) (ho : op.op = .buildSlice 68 3 #[(0, x), (1, y), (2, z)])
  (F G H : Nat → En) (hx : a.eval x = .agg (frc F)) (hy : a.eval y = .agg (frc G)) (hz : a.eval z = .agg (frc H))
  (h : wpList Tryz.prog ops Q rest (a.put op.dst (.slice (some ⟨w.heap.size, 0, none⟩) 3 3)) (w.alloc (.cells (f3c F G H) 43))) : wpList Tryz.prog ops Q (op :: rest) a w :=
 wpList_step fun _ hK => by
  rw [if_pos hw]
  have hk := hK _ _ h
  unfold Oper.wp execOp
  simp only [ho, List.map_toArray, List.map_cons, List.map_nil, hx, hy, hz, Sem.run_bind, Sem.run_pure, bs_frames, Result.andThen_ok]
  exact hk
set_option maxHeartbeats 1000000 in
theorem areFrames_ok (F G H : Nat → En) (w : World) : Calls Tryz.prog 190 #[.slice (some ⟨w.heap.size, 0, none⟩) 3 3] (w.alloc (.cells (f3c F G H) 43)) fun e w' =>
  e = .returned (.bool (Fr.may F && (Fr.may G && Fr.may H))) ∧ Below w.heap.size w w' := by
 obtain ⟨c, hc⟩ : ∃ c, Hid ((Fr.may F && (Fr.may G && Fr.may H)) = c) := ⟨_, rfl⟩
 rw [hc.out]
 obtain ⟨w0, hw0⟩ : ∃ w0, w.alloc (.cells (f3c F G H) 43) = w0 := ⟨_, rfl⟩
 rw [hw0]
 have B0 : Blk w.heap.size (f3c F G H) 43 w0 := by rw [← hw0]; exact blk_new w _ _
 have b0 : Below w.heap.size w w0 := by rw [← hw0]; exact below_box _ _
 clear hw0
 go_enter Tryz.func190, Tryz.ntmps190
 go_wp2_with fail
 go_loopw [7] (fun i w' => ∃ m : Nat, m ≤ 3 ∧ i = .int .i64 m ∧ Below w.heap.size w w' ∧ Blk w.heap.size (f3c F G H) 43 w' ∧ Hid (∀ j, j < m → Fr.may (sel3 F G H j) = true)) (fun i _ => 3 - (intOf i).toNat)
 case atStart => exact ⟨0, by omega, rfl, b0, B0, fun j hj => by omega⟩
 case round =>
  clear b0 B0
  obtain ⟨m, hm, rfl, hb, hB, hall⟩ := hrel
  by_cases hlt : m < 3
  ·have d1 : (m : Int) < 3 := by omega
   have hpart := f3c_part F G H m hlt
   generalize hS : sel3 F G H m = S at hpart
   have HS : Hid (sel3 F G H m = S) := hS
   clear hS
   have hck := fun w => frCheck S w
   go_wp2_with (first | refine load_part (o := m * 36) rfl 43 _ rfl hB rfl (enCells (Fr.list S)) hpart Tryz.underlying43 rfl (by rw [frl_length]; exact size27) ?_ | refine alloc_fr rfl rfl ?_ | refine store_new (cells := frc S) rfl 43 _ _ rfl rfl rfl (by rw [frc_size]; exact size27) (by rw [frc_size, frc_size]) (frc_one S) ?_ | refine load_blk rfl 43 _ rfl (blk_new _ (frc S) 43) rfl Tryz.underlying43 rfl (by rw [frc_size]; exact size27) ?_)
   refine (hck _).mono ?_
   rintro r w2 ⟨rfl, hb2⟩
   have hb3 := (hb.alloc hb.size (.cells (frc S) 43)).trans (hb2.mono (Nat.le_trans hb.size (by simp)))
   have hB3 := (hB.alloc (.cells (frc S) 43)).below hb2
   clear hb hb2 hB hck hpart
   cases hmay : Fr.may S
   ·have hno : c = false := by
     rw [← hc.out]
     have hs := HS.out
     obtain rfl | rfl | rfl : m = 0 ∨ m = 1 ∨ m = 2 := by omega
     ·rw [show F = S from hs, hmay]; rfl
     ·rw [show G = S from hs, hmay]; simp
     ·rw [show H = S from hs, hmay]; simp
    go_wp2_with fail
    go_ret
    exact ⟨by rw [hno]; rfl, hb3⟩
   ·go_wp2_with fail
    go_roundw
    case measure => simp [intOf]; omega
    refine ⟨m + 1, by omega, by go_num, hb3, hB3, fun j hj => ?_⟩
    rcases Nat.lt_or_ge j m with h | h
    ·exact hall.out j h
    ·obtain rfl : j = m := by omega
     rw [HS.out]; exact hmay
  ·have d1 : ¬ (m : Int) < 3 := by omega
   have hyes : c = true := by
    rw [← hc.out]
    have h0 := hall.out 0 (by omega)
    have h1 := hall.out 1 (by omega)
    have h2 := hall.out 2 (by omega)
    rw [show Fr.may F = true from h0, show Fr.may G = true from h1, show Fr.may H = true from h2]; rfl
   go_wp2_with fail
   go_ret
   exact ⟨by first | rfl | (rw [hyes]; rfl), hb⟩
set_option maxHeartbeats 1000000 in
theorem mayBe_pk (p : Pk) (w : World) : Calls Tryz.prog 147 #[.agg (pkc p)] w fun e w' => e = .returned (.bool p.may) ∧ Below w.heap.size w w' := by
 obtain ⟨c, hc⟩ : ∃ c, Hid (p.may = c) := ⟨_, rfl⟩
 rw [hc.out]
 obtain ⟨w0, hw0⟩ : ∃ w0, w.alloc (.cells (pkc p) 116) = w0 := ⟨_, rfl⟩
 have B0 : Blk w.heap.size (pkc p) 116 w0 := by rw [← hw0]; exact blk_new w _ _
 have b0 : Below w.heap.size w w0 := by rw [← hw0]; exact below_box _ _
 have c0 := B0.cell 0 (.int .u32 (p.n 0 : Int)) rfl
 have c1 := B0.cell 107 (.int .u32 (p.n 107 : Int)) rfl
 have c2 := B0.cell 3 (.int .u32 (p.n 3 : Int)) rfl
 have c3 := B0.cell 22 (.int .u32 (p.n 22 : Int)) rfl
 go_enter Tryz.func147, Tryz.ntmps147
 go_wp2_with fail
 refine (areDaemons_ok (p.n 0) (p.n 107) (p.n 3) (p.n 22) w0).mono ?_
 rintro e w1 ⟨rfl, hw1⟩
 have B1 : Blk w.heap.size (pkc p) 116 w1 := by rw [hw1]; exact B0.alloc _
 have b1 : Below w.heap.size w w1 := by rw [hw1]; exact b0.alloc b0.size _
 clear hw1 b0 B0 c0 c1 c2 c3
 cases hd : (decide (p.n 0 < 8) && (decide (p.n 107 < 8) && (decide (p.n 3 < 8) && decide (p.n 22 < 8))))
 ·have hm : c = false := by rw [← hc.out]; unfold Pk.may; rw [hd]; rfl
  subst hm
  go_wp2_with fail
  go_ret
  exact ⟨rfl, b1⟩
 ·have hm : c = (Fr.may p.f0 && (Fr.may p.f1 && Fr.may p.f2)) := by rw [← hc.out]; unfold Pk.may; rw [hd]; rfl
  have HM : Hid (c = (Fr.may p.f0 && (Fr.may p.f1 && Fr.may p.f2))) := hm
  clear hm hd
  go_wp2_with (first | refine load_wpart (o := 35) (by rfl) 43 _ rfl B1 rfl (enCells (Fr.list p.f0)) (part_f0 p) Tryz.underlying43 rfl (by rw [frl_length]; exact size27) ?_ | refine load_wpart (o := 71) (by rfl) 43 _ rfl B1 rfl (enCells (Fr.list p.f1)) (part_f1 p) Tryz.underlying43 rfl (by rw [frl_length]; exact size27) ?_ | refine load_wpart (o := 109) (by rfl) 43 _ rfl B1 rfl (enCells (Fr.list p.f2)) (part_f2 p) Tryz.underlying43 rfl (by rw [frl_length]; exact size27) ?_ | refine build_frames (by rfl) _ _ _ rfl p.f0 p.f1 p.f2 rfl rfl rfl ?_)
  refine (areFrames_ok p.f0 p.f1 p.f2 w1).mono ?_
  rintro e w2 ⟨rfl, hb2⟩
  go_wp2_with fail
  go_ret
  have hcc := HM.out
  subst hcc
  exact ⟨rfl, b1.trans (hb2.mono b1.size)⟩
set_option maxHeartbeats 1000000 in
theorem check_pk (p : Pk) (w : World) : Calls Tryz.prog 140 #[.agg (pkc p)] w fun e w' => e = .returned (.int .i64 (if p.may then 0 else 52)) ∧ Below w.heap.size w w' := by
 have hmb := fun w => mayBe_pk p w
 have hB := blk_new w (pkc p) 116
 have b0 := below_box w (.cells (pkc p) 116)
 cases hm : p.may
 ·rw [hm] at hmb
  go_enter Tryz.func140, Tryz.ntmps140
  go_wp2_with (refine load_blk rfl 116 _ rfl hB rfl Tryz.underlying116 rfl (by rw [pkc_size]; exact size35) ?_)
  refine (hmb _).mono ?_
  rintro r w1 ⟨rfl, hb1⟩
  go_wp2_with fail
  go_ret
  exact ⟨rfl, b0.trans (hb1.mono b0.size)⟩
 ·rw [hm] at hmb
  go_enter Tryz.func140, Tryz.ntmps140
  go_wp2_with (refine load_blk rfl 116 _ rfl hB rfl Tryz.underlying116 rfl (by rw [pkc_size]; exact size35) ?_)
  refine (hmb _).mono ?_
  rintro r w1 ⟨rfl, hb1⟩
  go_wp2_with fail
  go_ret
  exact ⟨rfl, b0.trans (hb1.mono b0.size)⟩
end Go.Proofs.YthgfpdidilolgaaGreat.Eld
namespace Go.Proofs.YthgfpdidilolgaaGreat.Eld
set_option maxRecDepth 10000
namespace Crc
def poly : BitVec 32 := 3988292384#32
def ones : BitVec 32 := 4294967295#32
def sh (r : BitVec 32) : BitVec 32 := if r.getLsbD 0 then (r >>> 1) ^^^ poly else r >>> 1
def shN : Nat → BitVec 32 → BitVec 32
 | 0, r => r
 | n + 1, r => shN n (sh r)
def ext (b : UInt8) : BitVec 32 := b.toBitVec.setWidth 32
def step (r : BitVec 32) (b : UInt8) : BitVec 32 := shN 8 (r ^^^ ext b)
def run (r : BitVec 32) : List UInt8 → BitVec 32
 | [] => r
 | b :: l => run (step r b) l
def sum (l : List UInt8) : BitVec 32 := ~~~ (run ones l)
theorem shN_zero (r : BitVec 32) : shN 0 r = r := rfl
theorem shN_succ (n : Nat) (r : BitVec 32) : shN (n + 1) r = shN n (sh r) := rfl
theorem shN_succ' (n : Nat) (r : BitVec 32) : shN (n + 1) r = sh (shN n r) := by
 induction n generalizing r with
 | zero => rfl
 | succ n ih => rw [shN_succ, ih, shN_succ]
theorem shN_add (m n : Nat) (r : BitVec 32) : shN (m + n) r = shN n (shN m r) := by
 induction m generalizing r with
 | zero => rw [Nat.zero_add, shN_zero]
 | succ m ih => rw [Nat.succ_add, shN_succ, ih, shN_succ]
theorem run_append (r : BitVec 32) (a b : List UInt8) : run r (a ++ b) = run (run r a) b := by
 induction a generalizing r with
 | nil => rfl
 | cons x a ih => exact ih (step r x)
theorem run_snoc (r : BitVec 32) (a : List UInt8) (b : UInt8) : run r (a ++ [b]) = step (run r a) b := by
 rw [run_append]; rfl
theorem sh_xor (a b : BitVec 32) : sh (a ^^^ b) = sh a ^^^ sh b := by
 unfold sh
 rw [BitVec.getLsbD_xor]
 cases a.getLsbD 0 <;> cases b.getLsbD 0 <;> simp only [Bool.xor_false, Bool.xor_true, Bool.not_false, Bool.not_true, Bool.false_eq_true, if_true, if_false, BitVec.ushiftRight_xor_distrib]
 ·rw [BitVec.xor_assoc]
 ·rw [BitVec.xor_assoc, BitVec.xor_assoc, BitVec.xor_comm (b >>> 1) poly]
 ·rw [BitVec.xor_assoc, ← BitVec.xor_assoc poly (b >>> 1) poly, BitVec.xor_comm poly (b >>> 1), BitVec.xor_assoc (b >>> 1) poly poly, BitVec.xor_self, BitVec.xor_zero]
theorem sh_eq_zero (a : BitVec 32) (h : sh a = 0#32) : a = 0#32 := by
 unfold sh at h
 cases h0 : a.getLsbD 0 with
 | true =>
  rw [h0, if_pos rfl] at h
  have h1 := congrArg (fun x : BitVec 32 => x.getLsbD 31) h
  simp only [BitVec.getLsbD_xor, BitVec.getLsbD_ushiftRight, BitVec.getLsbD_zero] at h1
  have h2 : a.getLsbD (1 + 31) = false := BitVec.getLsbD_of_ge a _ (by decide)
  have h3 : poly.getLsbD 31 = true := by decide
  rw [h2, h3] at h1
  cases h1
 | false =>
  rw [h0, if_neg (by decide)] at h
  apply BitVec.eq_of_getLsbD_eq
  intro i hi
  rw [BitVec.getLsbD_zero]
  cases i with
  | zero => exact h0
  | succ i =>
   have h1 := congrArg (fun x : BitVec 32 => x.getLsbD i) h
   simp only [BitVec.getLsbD_ushiftRight, BitVec.getLsbD_zero] at h1
   rw [Nat.add_comm]; exact h1
theorem xor_eq_zero (a b : BitVec 32) (h : a ^^^ b = 0#32) : a = b := by
 have h1 : a ^^^ b ^^^ b = 0#32 ^^^ b := by rw [h]
 rw [BitVec.xor_assoc, BitVec.xor_self, BitVec.xor_zero, BitVec.zero_xor] at h1
 exact h1
theorem sh_inj (a b : BitVec 32) (h : sh a = sh b) : a = b := by
 apply xor_eq_zero
 apply sh_eq_zero
 rw [sh_xor, h, BitVec.xor_self]
theorem shN_inj (n : Nat) (a b : BitVec 32) (h : shN n a = shN n b) : a = b := by
 induction n generalizing a b with
 | zero => exact h
 | succ n ih => exact sh_inj a b (ih _ _ h)
theorem shN_xor (n : Nat) (a b : BitVec 32) : shN n (a ^^^ b) = shN n a ^^^ shN n b := by
 induction n generalizing a b with
 | zero => rfl
 | succ n ih => rw [shN_succ, sh_xor, ih, ← shN_succ, ← shN_succ]
theorem xor_cancel (a b c : BitVec 32) (h : a ^^^ c = b ^^^ c) : a = b := by
 apply xor_eq_zero
 have : (a ^^^ c) ^^^ (b ^^^ c) = a ^^^ b := by
  rw [BitVec.xor_assoc, ← BitVec.xor_assoc c b c, BitVec.xor_comm c b, BitVec.xor_assoc b c c, BitVec.xor_self, BitVec.xor_zero]
 rw [← this, h, BitVec.xor_self]
theorem step_inj (a b : BitVec 32) (x : UInt8) (h : step a x = step b x) : a = b :=
 xor_cancel _ _ _ (shN_inj 8 _ _ h)
theorem run_inj (a b : BitVec 32) (l : List UInt8) (h : run a l = run b l) : a = b := by
 induction l generalizing a b with
 | nil => exact h
 | cons x l ih => exact step_inj a b x (ih _ _ h)
theorem not_eq_xor (a : BitVec 32) : ~~~ a = a ^^^ ones := by
 have h : ones = BitVec.allOnes 32 := by decide
 rw [h, BitVec.xor_allOnes]
theorem sh_shl (y : BitVec 32) (h : y.getLsbD 31 = false) : sh (y <<< 1) = y := by
 unfold sh
 have h0 : (y <<< 1).getLsbD 0 = false := by simp
 rw [h0, if_neg (by decide)]
 apply BitVec.eq_of_getLsbD_eq
 intro i hi
 rw [BitVec.getLsbD_ushiftRight, BitVec.getLsbD_shiftLeft]
 by_cases hi2 : i = 31
 ·subst hi2
  rw [h]; decide
 ·have : 1 + i < 32 := by omega
  simp [this]
theorem shN_shl (n : Nat) (y : BitVec 32) (h : ∀ i, 32 - n ≤ i → y.getLsbD i = false) : shN n (y <<< n) = y := by
 induction n generalizing y with
 | zero => simp [shN_zero]
 | succ n ih =>
  rw [shN_succ, BitVec.shiftLeft_add, sh_shl, ih y (fun i hi => h i (by omega))]
  rw [BitVec.getLsbD_shiftLeft]
  by_cases hn : 31 < n
  ·simp [hn]
  ·rw [h (31 - n) (by omega)]; simp
def num (a b c d : UInt8) : BitVec 32 := ext a ^^^ ext b <<< 8 ^^^ ext c <<< 16 ^^^ ext d <<< 24
theorem ext_high (b : UInt8) (i : Nat) (h : 8 ≤ i) : (ext b).getLsbD i = false := by
 unfold ext
 rw [BitVec.getLsbD_setWidth, BitVec.getLsbD_of_ge b.toBitVec i h, Bool.and_false]
theorem run_four (r : BitVec 32) (a b c d : UInt8) : run r [a, b, c, d] = shN 32 (r ^^^ num a b c d) := by
 show step (step (step (step r a) b) c) d = _
 have hb : ext b = shN 8 (ext b <<< 8) := (shN_shl 8 (ext b) (fun i hi => ext_high b i (by omega))).symm
 have hc : ext c = shN 16 (ext c <<< 16) := (shN_shl 16 (ext c) (fun i hi => ext_high c i (by omega))).symm
 have hd : ext d = shN 24 (ext d <<< 24) := (shN_shl 24 (ext d) (fun i hi => ext_high d i (by omega))).symm
 unfold num
 rw [← BitVec.xor_assoc, ← BitVec.xor_assoc, ← BitVec.xor_assoc]
 have e32 : ∀ x, shN 32 x = shN 8 (shN 24 x) := fun x => shN_add 24 8 x
 have e24 : ∀ x, shN 24 x = shN 8 (shN 16 x) := fun x => shN_add 16 8 x
 have e16 : ∀ x, shN 16 x = shN 8 (shN 8 x) := fun x => shN_add 8 8 x
 rw [e32, shN_xor 24 _ (ext d <<< 24), ← hd, e24, shN_xor 16 _ (ext c <<< 16), ← hc, e16, shN_xor 8 _ (ext b <<< 8), ← hb]
 rfl
theorem getLsbD_num (a b c d : UInt8) (i : Nat) (h : i < 32) : (num a b c d).getLsbD i =
  if i < 8 then a.toBitVec.getLsbD i else if i < 16 then b.toBitVec.getLsbD (i - 8) else if i < 24 then c.toBitVec.getLsbD (i - 16) else d.toBitVec.getLsbD (i - 24) := by
 unfold num
 simp only [BitVec.getLsbD_xor, BitVec.getLsbD_shiftLeft]
 have key : ∀ (x : UInt8) (j : Nat), j < 32 → (ext x).getLsbD j = x.toBitVec.getLsbD j := by
  intro x j hj
  unfold ext
  rw [BitVec.getLsbD_setWidth]; simp [hj]
 have z : ∀ (x : UInt8) (j k : Nat), j + 8 ≤ k → (ext x).getLsbD (k - j) = false := fun x j k h => ext_high x _ (by omega)
 by_cases h8 : i < 8
 ·have h16 : i < 16 := by omega
  have h24 : i < 24 := by omega
  rw [key a i h]
  simp [h8, h16, h24]
 ·rw [ext_high a i (by omega), if_neg h8]
  by_cases h16 : i < 16
  ·have h24 : i < 24 := by omega
   rw [key b (i - 8) (by omega)]
   simp [h8, h16, h24, h]
  ·rw [z b 8 i (by omega), if_neg h16]
   by_cases h24 : i < 24
   ·rw [key c (i - 16) (by omega)]
    simp [h16, h24, h]
   ·rw [z c 16 i (by omega), if_neg h24, key d (i - 24) (by omega)]
    simp [h24, h]
theorem num_inj (a b c d a' b' c' d' : UInt8) (h : num a b c d = num a' b' c' d') : a = a' ∧ b = b' ∧ c = c' ∧ d = d' := by
 have hb := fun i (hi : i < 32) => congrArg (fun x : BitVec 32 => x.getLsbD i) h
 refine ⟨?_, ?_, ?_, ?_⟩
 ·apply UInt8.eq_of_toBitVec_eq; apply BitVec.eq_of_getLsbD_eq; intro i hi
  have := hb i (by omega)
  simp only [getLsbD_num _ _ _ _ i (by omega)] at this
  rw [if_pos hi, if_pos hi] at this; exact this
 ·apply UInt8.eq_of_toBitVec_eq; apply BitVec.eq_of_getLsbD_eq; intro i hi
  have := hb (i + 8) (by omega)
  simp only [getLsbD_num _ _ _ _ (i + 8) (by omega)] at this
  simp only [show ¬ i + 8 < 8 from by omega, show i + 8 < 16 from by omega, if_true, if_false, Nat.add_sub_cancel] at this; exact this
 ·apply UInt8.eq_of_toBitVec_eq; apply BitVec.eq_of_getLsbD_eq; intro i hi
  have := hb (i + 16) (by omega)
  simp only [getLsbD_num _ _ _ _ (i + 16) (by omega)] at this
  simp only [show ¬ i + 16 < 8 from by omega, show ¬ i + 16 < 16 from by omega, show i + 16 < 24 from by omega, if_true, if_false, Nat.add_sub_cancel] at this; exact this
 ·apply UInt8.eq_of_toBitVec_eq; apply BitVec.eq_of_getLsbD_eq; intro i hi
  have := hb (i + 24) (by omega)
  simp only [getLsbD_num _ _ _ _ (i + 24) (by omega)] at this
  simp only [show ¬ i + 24 < 8 from by omega, show ¬ i + 24 < 16 from by omega, show ¬ i + 24 < 24 from by omega, if_false, Nat.add_sub_cancel] at this; exact this
theorem four_inj (r : BitVec 32) (l m : List UInt8) (h1 : l.length = 4) (h2 : m.length = 4) (h : run r l = run r m) : l = m := by
 match l, m, h1, h2, h with
 | [a, b, c, d], [a', b', c', d'], _, _, h =>
  rw [run_four, run_four] at h
  have h3 := shN_inj 32 _ _ h
  rw [BitVec.xor_comm r, BitVec.xor_comm r] at h3
  obtain ⟨rfl, rfl, rfl, rfl⟩ := num_inj _ _ _ _ _ _ _ _ (xor_cancel _ _ _ h3)
  rfl
theorem short_inj (r : BitVec 32) (l m : List UInt8) (h1 : l.length = m.length) (h2 : l.length ≤ 4) (h : run r l = run r m) : l = m := by
 have h3 := four_inj r (l ++ List.replicate (4 - l.length) 0) (m ++ List.replicate (4 - l.length) 0) (by simp; omega) (by simp; omega) (by rw [run_append, run_append, h])
 exact (List.append_inj h3 h1).1
theorem window (r : BitVec 32) (l m : List UInt8) (k : Nat) (h1 : l.length = m.length) (h2 : l.take k = m.take k) (h3 : l.drop (k + 4) = m.drop (k + 4)) (h : run r l = run r m) : l = m := by
 have e1 : l = l.take k ++ ((l.drop k).take 4 ++ l.drop (k + 4)) := by
  rw [← List.drop_drop, List.take_append_drop, List.take_append_drop]
 have e2 : m = m.take k ++ ((m.drop k).take 4 ++ m.drop (k + 4)) := by
  rw [← List.drop_drop, List.take_append_drop, List.take_append_drop]
 have e3 : (l.drop k).take 4 = (m.drop k).take 4 := by
  rw [e1, e2, run_append, run_append, run_append, run_append, h2, h3] at h
  exact short_inj _ _ _ (by simp [h1]) (by simp; omega) (run_inj _ _ _ h)
 rw [e1, e2, h2, h3, e3]
end Crc
end Go.Proofs.YthgfpdidilolgaaGreat.Eld
namespace Go.Proofs.YthgfpdidilolgaaGreat.Eld
set_option maxRecDepth 10000
namespace Crc
theorem lt32 (a : BitVec 32) : (a.toNat : Int) < 4294967296 := by have := a.isLt; omega
theorem lt8 (b : UInt8) : (b.toNat : Int) < 256 := by have := b.toNat_lt; omega
theorem xor32 (a b : BitVec 32) : bits .xor .u32 (a.toNat : Int) (b.toNat : Int) = ((a ^^^ b).toNat : Int) := by
 rw [u32_xor_nat _ _ a.isLt b.isLt, BitVec.toNat_xor]
theorem xor_poly (a : BitVec 32) : bits .xor .u32 (a.toNat : Int) 3988292384 = ((a ^^^ poly).toNat : Int) := by
 rw [← xor32]; rfl
theorem ext_toNat (b : UInt8) : (ext b).toNat = b.toNat := by
 unfold ext
 have := b.toNat_lt
 rw [BitVec.toNat_setWidth, UInt8.toNat_toBitVec]; omega
theorem xor_byte (a : BitVec 32) (b : UInt8) : bits .xor .u32 (a.toNat : Int) (b.toNat : Int) = ((a ^^^ ext b).toNat : Int) := by
 rw [← xor32, ext_toNat]
theorem not32 (a : BitVec 32) : bits .xor .u32 4294967295 (a.toNat : Int) = ((~~~ a).toNat : Int) := by
 rw [not_eq_xor, BitVec.xor_comm, ← xor32]; rfl
theorem low_eq (a : BitVec 32) : a.getLsbD 0 = decide (a.toNat % 2 = 1) := by
 rw [BitVec.getLsbD, Nat.testBit_zero]
theorem and_one (a : BitVec 32) : bits .and .u32 (a.toNat : Int) 1 = ((a.toNat % 2 : Nat) : Int) := by
 have := u32_and_nat a.toNat 1 a.isLt (by decide)
 rw [Nat.and_one_is_mod] at this
 exact this
theorem half (a : BitVec 32) : (a.toNat : Int) / (2 : Int) = ((a >>> 1).toNat : Int) := by
 rw [BitVec.toNat_ushiftRight, Nat.shiftRight_eq_div_pow]; omega
theorem sh_odd (a : BitVec 32) (h : a.toNat % 2 = 1) : sh a = (a >>> 1) ^^^ poly := by
 unfold sh; rw [low_eq, h, if_pos (by decide)]
theorem sh_even (a : BitVec 32) (h : a.toNat % 2 = 0) : sh a = a >>> 1 := by
 unfold sh; rw [low_eq, h, if_neg (by decide)]
def byteAt (r : BitVec 32) (k : Nat) : UInt8 := UInt8.ofNat (r.toNat / 2 ^ (8 * k))
theorem byteAt0 (r : BitVec 32) : (r.toNat : Int) % 256 = ((byteAt r 0).toNat : Int) := by
 unfold byteAt; rw [UInt8.toNat_ofNat']; omega
theorem byteAt1 (r : BitVec 32) : (r.toNat : Int) / 256 % 256 = ((byteAt r 1).toNat : Int) := by
 unfold byteAt; rw [UInt8.toNat_ofNat']; omega
theorem byteAt2 (r : BitVec 32) : (r.toNat : Int) / 65536 % 256 = ((byteAt r 2).toNat : Int) := by
 unfold byteAt; rw [UInt8.toNat_ofNat']; omega
theorem byteAt3 (r : BitVec 32) : (r.toNat : Int) / 16777216 = ((byteAt r 3).toNat : Int) := by
 have := r.isLt
 unfold byteAt; rw [UInt8.toNat_ofNat']; omega
def four (r : BitVec 32) : ByteArray := ⟨#[byteAt r 0, byteAt r 1, byteAt r 2, byteAt r 3]⟩
theorem strOf_four (r : BitVec 32) : strOfNums [((byteAt r 0).toNat : Int), ((byteAt r 1).toNat : Int), ((byteAt r 2).toNat : Int), ((byteAt r 3).toNat : Int)] = four r := by
 simp [strOfNums, four]
def fourL (r : BitVec 32) : List UInt8 := [byteAt r 0, byteAt r 1, byteAt r 2, byteAt r 3]
def okL (l : List UInt8) : Bool := decide (4 ≤ l.length) && (l.drop (l.length - 4) == fourL (sum (l.take (l.length - 4))))
theorem four_data (r : BitVec 32) : (four r).data.toList = fourL r := rfl
theorem four_toList (r : BitVec 32) : (four r).toList = fourL r := by rw [ByteArray.toList_eq]; rfl
theorem length_data (s : ByteArray) : s.data.toList.length = s.size := by rw [Array.length_toList]; rfl
theorem ok_of_short (s : ByteArray) (h : s.size < 4) : okL s.data.toList = false := by
 unfold okL
 have : ¬ 4 ≤ s.data.toList.length := by rw [length_data]; omega
 rw [decide_eq_false this, Bool.false_and]
theorem ok_of_long (s : ByteArray) (h : 4 ≤ s.size) : ((s.extract (s.size - 4) s.size).toList == (four (sum (s.data.toList.take (s.size - 4)))).toList) = okL s.data.toList := by
 unfold okL
 have h1 : 4 ≤ s.data.toList.length := by rw [length_data]; omega
 have h3 : (s.extract (s.size - 4) s.size).toList = s.data.toList.drop (s.size - 4) := by
  rw [ByteArray.toList_eq, ByteArray.data_extract, Array.toList_extract, List.extract_eq_take_drop, List.take_of_length_le]
  rw [List.length_drop, length_data]
  omega
 rw [decide_eq_true h1, Bool.true_and, length_data, h3, four_toList]
end Crc
end Go.Proofs.YthgfpdidilolgaaGreat.Eld
namespace Go.Proofs.YthgfpdidilolgaaGreat.Eld
set_option maxRecDepth 10000
open Go.RowKit
theorem ret_int {k : IntKind} {a b : Int} (h : a = b) : Ending.returned (.int k a) = .returned (.int k b) := by rw [h]
set_option maxHeartbeats 400000 in
theorem shift_any (r : BitVec 32) (w : World) :
  Calls Tryz.prog 220 #[.int .u32 (r.toNat : Int)] w fun e w' => e = .returned (.int .u32 ((Crc.sh r).toNat : Int)) ∧ w' = w := by
 have h1 := Crc.lt32 r
 have h0 : (0 : Int) ≤ (r.toNat : Int) := by omega
 have ha := Crc.and_one r
 have hh := Crc.half r
 by_cases hp : r.toNat % 2 = 1
 ·have H : Hid (bits .xor .u32 ((r.toNat : Int) / 2) 3988292384 = ((Crc.sh r).toNat : Int)) := by
   unfold Hid; rw [hh, Crc.xor_poly, Crc.sh_odd r hp]
  have hb : (bits .and .u32 (r.toNat : Int) 1 == 1) = true := by rw [ha, hp]; rfl
  clear ha hh hp
  go_enter Tryz.func220, Tryz.ntmps220
  go_wp2
  go_ret
  exact ⟨ret_int H.out, rfl⟩
 ·have hp : r.toNat % 2 = 0 := by omega
  have H : Hid ((r.toNat : Int) / 2 = ((Crc.sh r).toNat : Int)) := by
   unfold Hid; rw [hh, Crc.sh_even r hp]
  have hb : (bits .and .u32 (r.toNat : Int) 1 == 1) = false := by rw [ha, hp]; rfl
  clear ha hh hp
  go_enter Tryz.func220, Tryz.ntmps220
  go_wp2
  go_ret
  exact ⟨ret_int H.out, rfl⟩
set_option maxHeartbeats 400000 in
theorem step_any (r : BitVec 32) (b : UInt8) (w : World) :
  Calls Tryz.prog 208 #[.int .u32 (r.toNat : Int), .int .u8 (b.toNat : Int)] w fun e w' => e = .returned (.int .u32 ((Crc.step r b).toNat : Int)) ∧ w' = w := by
 have h1 := Crc.lt32 r
 have h2 := Crc.lt8 b
 have X : Hid (bits .xor .u32 (r.toNat : Int) (b.toNat : Int) = ((r ^^^ Crc.ext b).toNat : Int)) := Crc.xor_byte r b
 have Y : Hid (Crc.step r b = Crc.shN 8 (r ^^^ Crc.ext b)) := rfl
 generalize r ^^^ Crc.ext b = y at X Y
 go_enter Tryz.func208, Tryz.ntmps208
 go_wp2
 go_loop [0, 9] (fun x i => ∃ k : Nat, k ≤ 8 ∧ i = .int .i64 k ∧ ∃ z : BitVec 32, x = .int .u32 (z.toNat : Int) ∧ Hid (z = Crc.shN k y)) (fun _ i => (8 - intOf i).toNat)
 case atStart => exact ⟨0, by omega, rfl, y, by rw [X.out], rfl⟩
 case round =>
  obtain ⟨k, hk, rfl, z, rfl, hz⟩ := hrel
  clear h1 h2
  by_cases hlt : k < 8
  ·go_wp2_with (go_at_call 220; refine (shift_any _ _).mono ?_; rintro e w' ⟨rfl, rfl⟩)
   go_round
   case rel => exact ⟨k + 1, by omega, by go_num, Crc.sh z, rfl, by rw [hz.out]; exact (Crc.shN_succ' k y).symm⟩
   case measure => simp [intOf]; omega
  ·go_wp2
   go_ret
   have hk8 : k = 8 := by omega
   subst hk8
   exact ⟨ret_int (by rw [Y.out, hz.out]), rfl⟩
theorem take_snoc (s : ByteArray) (k : Nat) (h : k < s.size) : s.data.toList.take (k + 1) = s.data.toList.take k ++ [s[k]] := by
 rw [List.take_succ_eq_append_getElem (by simpa using h)]; rfl
theorem run_take (s : ByteArray) (k : Nat) (h : k < s.size) : Crc.run Crc.ones (s.data.toList.take (k + 1)) = Crc.step (Crc.run Crc.ones (s.data.toList.take k)) s[k] := by
 rw [take_snoc s k h, Crc.run_snoc]
set_option maxHeartbeats 400000 in
theorem of_any (s : ByteArray) (w : World) (hs : s.size ≤ maxLen) :
  Calls Tryz.prog 176 #[.string s] w fun e w' => e = .returned (.int .u32 ((Crc.sum s.data.toList).toNat : Int)) ∧ w' = w := by
 unfold maxLen at hs
 go_enter Tryz.func176, Tryz.ntmps176
 go_wp2
 go_loop [3, 4, 7] (fun x _ i => ∃ k : Nat, k ≤ s.size ∧ i = .int .i64 k ∧ ∃ z : BitVec 32, x = .int .u32 (z.toNat : Int) ∧ Hid (z = Crc.run Crc.ones (s.data.toList.take k))) (fun _ _ i => s.size - (intOf i).toNat)
 case atStart => exact ⟨0, by omega, rfl, Crc.ones, rfl, rfl⟩
 case round =>
  obtain ⟨k, hk, rfl, z, rfl, hz⟩ := hrel
  by_cases hlt : k < s.size
  ·go_wp2_with (go_at_call 208; refine (step_any _ _ _).mono ?_; rintro e w' ⟨rfl, rfl⟩)
   go_round
   case rel => exact ⟨k + 1, by omega, by go_num, _, rfl, by rw [hz.out]; exact (run_take s k hlt).symm⟩
   case measure => simp [intOf]; omega
  ·have hz' : Hid (~~~ z = Crc.sum s.data.toList) := by
    unfold Hid; rw [hz.out, List.take_of_length_le (by simp; omega)]; rfl
   have hn := Crc.not32 z
   have hn' : Hid (bits .xor .u32 4294967295 (z.toNat : Int) = ((Crc.sum s.data.toList).toNat : Int)) := by unfold Hid; rw [hn, hz'.out]
   clear hz hz' hn
   go_wp2
   go_ret
   exact ⟨ret_int hn'.out, rfl⟩
end Go.Proofs.YthgfpdidilolgaaGreat.Eld
namespace Go.Proofs.YthgfpdidilolgaaGreat.Eld
set_option maxRecDepth 10000
open Go.RowKit
theorem conv_four (a b c d : Int) (w : World) (B : Nat) (hB : B = w.heap.size) :
  (convert 162 9 (.slice (some ⟨B, 0, none⟩) 4 4)).run Tryz.prog (w.alloc (.cells #[.int .u8 a, .int .u8 b, .int .u8 c, .int .u8 d] 253)) = .ok (.string (strOfNums [a, b, c, d])) (w.alloc (.cells #[.int .u8 a, .int .u8 b, .int .u8 c, .int .u8 d] 253)) := by
 subst hB
 refine run_convert_bytes_arg _ 162 5 Tryz.underlying162 Tryz.underlying5 w.heap.size 0 4 4 [a, b, c, d] rfl ?_ 9 Tryz.underlying9
 intro i hi
 obtain rfl | rfl | rfl | rfl : i = 0 ∨ i = 1 ∨ i = 2 ∨ i = 3 := by omega
 all_goals simp [go_sem]
set_option maxHeartbeats 400000 in
theorem sumBytes_any (r : BitVec 32) (w : World) :
  Calls Tryz.prog 175 #[.int .u32 (r.toNat : Int)] w fun e w' => e = .returned (.string (Crc.four r)) ∧ Below w.heap.size w w' := by
 have h1 := Crc.lt32 r
 go_enter Tryz.func175, Tryz.ntmps175
 go_wp2
 clear h1
 go_loopw [4, 5] (fun _ i w' => ∃ k : Nat, k ≤ 4 ∧ i = .int .i64 k ∧ ∃ a b c d : Int, w' = w.alloc (.cells #[.int .u8 a, .int .u8 b, .int .u8 c, .int .u8 d] 253) ∧ Hid ((0 < k → a = ((Crc.byteAt r 0).toNat : Int)) ∧ (1 < k → b = ((Crc.byteAt r 1).toNat : Int)) ∧ (2 < k → c = ((Crc.byteAt r 2).toNat : Int)) ∧ (3 < k → d = ((Crc.byteAt r 3).toNat : Int)))) (fun _ i _ => (4 - intOf i).toNat)
 case atStart => exact ⟨0, by omega, rfl, 0, 0, 0, 0, rfl, by omega, by omega, by omega, by omega⟩
 case round =>
  obtain ⟨k, hk, rfl, a, b, c, d, rfl, hh⟩ := hrel
  obtain rfl | rfl | rfl | rfl | rfl : k = 0 ∨ k = 1 ∨ k = 2 ∨ k = 3 ∨ k = 4 := by omega
  ·go_wp2
   refine ⟨⟨1, by omega, rfl, _, b, c, d, rfl, ?_⟩, by simp [intOf]⟩
   obtain ⟨e0, e1, e2, e3⟩ := hh.out
   exact ⟨fun _ => Crc.byteAt0 r, fun h => by omega, fun h => by omega, fun h => by omega⟩
  ·go_wp2
   refine ⟨⟨2, by omega, rfl, a, _, c, d, rfl, ?_⟩, by simp [intOf]⟩
   obtain ⟨e0, e1, e2, e3⟩ := hh.out
   exact ⟨fun _ => e0 (by omega), fun _ => Crc.byteAt1 r, fun h => by omega, fun h => by omega⟩
  ·go_wp2
   refine ⟨⟨3, by omega, rfl, a, b, _, d, rfl, ?_⟩, by simp [intOf]⟩
   obtain ⟨e0, e1, e2, e3⟩ := hh.out
   exact ⟨fun _ => e0 (by omega), fun _ => e1 (by omega), fun _ => Crc.byteAt2 r, fun h => by omega⟩
  ·go_wp2
   refine ⟨⟨4, by omega, rfl, a, b, c, _, rfl, ?_⟩, by simp [intOf]⟩
   obtain ⟨e0, e1, e2, e3⟩ := hh.out
   exact ⟨fun _ => e0 (by omega), fun _ => e1 (by omega), fun _ => e2 (by omega), fun _ => Crc.byteAt3 r⟩
  ·obtain ⟨e0, e1, e2, e3⟩ := hh.out
   obtain rfl := e0 (by omega)
   obtain rfl := e1 (by omega)
   obtain rfl := e2 (by omega)
   obtain rfl := e3 (by omega)
   have kc := conv_four ((Crc.byteAt r 0).toNat : Int) ((Crc.byteAt r 1).toNat : Int) ((Crc.byteAt r 2).toNat : Int) ((Crc.byteAt r 3).toNat : Int) w w.heap.size rfl
   rw [Crc.strOf_four] at kc
   clear e0 e1 e2 e3 hh
   go_wp2
   go_ret
   exact ⟨rfl, (Below.refl _ _).alloc (Nat.le_refl _) _⟩
set_option maxHeartbeats 400000 in
theorem seal_any (s : ByteArray) (w : World) (hs : s.size ≤ 140737488351232) :
  Calls Tryz.prog 141 #[.string s] w fun e w' => e = .returned (.string (s ++ Crc.four (Crc.sum s.data.toList))) ∧ Below w.heap.size w w' := by
 have hs' : s.size ≤ maxLen := by unfold maxLen; omega
 have h4 : (Crc.four (Crc.sum s.data.toList)).size = 4 := rfl
 go_enter Tryz.func141, Tryz.ntmps141
 go_wp2_with (first | (go_at_call 176; refine (of_any _ _ hs').mono ?_; rintro e w' ⟨rfl, rfl⟩) | (go_at_call 175; refine (sumBytes_any _ _).mono ?_; rintro e w' ⟨rfl, hb⟩))
 go_ret
 exact ⟨rfl, hb⟩
end Go.Proofs.YthgfpdidilolgaaGreat.Eld
namespace Go.Proofs.YthgfpdidilolgaaGreat.Eld
set_option maxRecDepth 10000
open Go.RowKit Go.Sort
set_option maxHeartbeats 400000 in
theorem ok_short (s : ByteArray) (w : World) (hs : s.size < 4) :
  Calls Tryz.prog 145 #[.string s] w fun e w' => e = .returned (.bool false) ∧ Below w.heap.size w w' := by
 go_enter Tryz.func145, Tryz.ntmps145
 go_wp2
 go_ret
 exact ⟨rfl, Below.refl _ _⟩
set_option maxHeartbeats 400000 in
theorem ok_long (s : ByteArray) (w : World) (hs4 : 4 ≤ s.size) (hs : s.size ≤ 140737488355328) :
  Calls Tryz.prog 145 #[.string s] w fun e w' => e = .returned (.bool ((s.extract (s.size - 4) s.size).toList == (Crc.four (Crc.sum (s.data.toList.take (s.size - 4)))).toList)) ∧ Below w.heap.size w w' := by
 have hs' : (s.extract 0 (s.size - 4)).size ≤ maxLen := by unfold maxLen; simp; omega
 have he : ((s.size : Int) - 4).toNat = s.size - 4 := by omega
 have cO : ∀ d os, Calls Tryz.prog 176 #[.string (s.extract 0 (s.size - 4))] (grow (redrawn w d) os) fun e w'' => e = .returned (.int .u32 ((Crc.sum (s.data.toList.take (s.size - 4))).toNat : Int)) ∧ ∃ p : Regrown, w'' = grow (redrawn w p.d) p.os := fun d os => Calls.regrown_of ((of_any _ _ hs').mono fun e w' ⟨he, hw⟩ => ⟨by rw [he]; simp, by rw [hw]; exact Below.refl _ _⟩)
 have cF : ∀ d os, Calls Tryz.prog 175 #[.int .u32 ((Crc.sum (s.data.toList.take (s.size - 4))).toNat : Int)] (grow (redrawn w d) os) fun e w'' => e = .returned (.string (Crc.four (Crc.sum (s.data.toList.take (s.size - 4))))) ∧ ∃ p : Regrown, w'' = grow (redrawn w p.d) p.os := fun d os => Calls.regrown_of (sumBytes_any _ _)
 go_enter Tryz.func145, Tryz.ntmps145
 go_wp2
 refine wp_region_quiet_below (by kernel_rfl) (by kernel_rfl) ?_
 repeat (any_goals (first | go_big_quiet_step (first | exact cO _ _ | exact cF _ _) | quiet_step (first | exact cO _ _ | exact cF _ _)))
 refine wpQuiet_nil ?_
 intro _ hw'
 obtain ⟨⟨dq, osq⟩, hw''⟩ := hw'
 subst hw''
 go_wp2
 go_ret
 exact ⟨rfl, below_regrown w dq osq⟩
theorem ok_any (s : ByteArray) (w : World) (hs : s.size ≤ 140737488355328) :
  Calls Tryz.prog 145 #[.string s] w fun e w' => e = .returned (.bool (Crc.okL s.data.toList)) ∧ Below w.heap.size w w' := by
 rcases Nat.lt_or_ge s.size 4 with h | h
 ·rw [Crc.ok_of_short s h]; exact ok_short s w h
 ·rw [← Crc.ok_of_long s h]; exact ok_long s w h hs
end Go.Proofs.YthgfpdidilolgaaGreat.Eld
namespace Go.Proofs.YthgfpdidilolgaaGreat.Eld
set_option maxRecDepth 10000
open Go.RowKit
end Go.Proofs.YthgfpdidilolgaaGreat.Eld
namespace Go.Proofs.YthgfpdidilolgaaGreat.Eld
set_option maxRecDepth 10000
open Go.RowKit Go.Sort
end Go.Proofs.YthgfpdidilolgaaGreat.Eld
namespace Go.Proofs.YthgfpdidilolgaaGreat.Eld
set_option maxRecDepth 10000
open Go.RowKit
end Go.Proofs.YthgfpdidilolgaaGreat.Eld
namespace Go.Proofs.YthgfpdidilolgaaGreat.Eld
set_option maxRecDepth 10000
open Go.RowKit
end Go.Proofs.YthgfpdidilolgaaGreat.Eld
namespace Go.Proofs.YthgfpdidilolgaaGreat.Eld
set_option maxRecDepth 10000
namespace Crc
theorem bit_byteAt (r : BitVec 32) (k i : Nat) (h : i < 8) : (byteAt r k).toBitVec.getLsbD i = r.getLsbD (8 * k + i) := by
 unfold byteAt
 show (BitVec.ofNat 8 (r.toNat / 2 ^ (8 * k))).getLsbD i = _
 rw [BitVec.getLsbD_ofNat, Nat.testBit_div_two_pow]
 simp [h, BitVec.getLsbD, Nat.add_comm]
theorem num_four (r : BitVec 32) : num (byteAt r 0) (byteAt r 1) (byteAt r 2) (byteAt r 3) = r := by
 apply BitVec.eq_of_getLsbD_eq
 intro i hi
 rw [getLsbD_num _ _ _ _ i hi]
 by_cases h8 : i < 8
 ·rw [if_pos h8, bit_byteAt r 0 i h8]; simp
 ·rw [if_neg h8]
  by_cases h16 : i < 16
  ·rw [if_pos h16, bit_byteAt r 1 (i - 8) (by omega)]; congr 1; omega
  ·rw [if_neg h16]
   by_cases h24 : i < 24
   ·rw [if_pos h24, bit_byteAt r 2 (i - 16) (by omega)]; congr 1; omega
   ·rw [if_neg h24, bit_byteAt r 3 (i - 24) (by omega)]; congr 1; omega
def good : BitVec 32 := shN 32 ones
theorem run_seal (l : List UInt8) : run ones (l ++ fourL (sum l)) = good := by
 rw [run_append]
 show run (run ones l) [byteAt (sum l) 0, byteAt (sum l) 1, byteAt (sum l) 2, byteAt (sum l) 3] = good
 rw [run_four, num_four]
 unfold good sum
 rw [not_eq_xor, ← BitVec.xor_assoc, BitVec.xor_self, BitVec.zero_xor]
theorem four_of_run (l m : List UInt8) (hm : m.length = 4) (h : run ones (l ++ m) = good) : m = fourL (sum l) := by
 have h2 := run_seal l
 rw [run_append] at h h2
 exact four_inj (run ones l) m (fourL (sum l)) hm rfl (h.trans h2.symm)
theorem okL_of (l : List UInt8) (h4 : 4 ≤ l.length) : okL l = true ↔ run ones l = good := by
 have e : l = l.take (l.length - 4) ++ l.drop (l.length - 4) := (List.take_append_drop _ _).symm
 have hd : (l.drop (l.length - 4)).length = 4 := by rw [List.length_drop]; omega
 unfold okL
 rw [decide_eq_true h4, Bool.true_and, beq_iff_eq]
 constructor
 ·intro h
  have h2 := run_seal (l.take (l.length - 4))
  rw [← h, ← e] at h2
  exact h2
 ·intro h
  rw [e] at h
  exact four_of_run _ _ hd h
theorem ok_sealed (l : List UInt8) : okL (l ++ fourL (sum l)) = true :=
 (okL_of _ (by simp [fourL])).2 (run_seal l)
theorem ok_window (t u : List UInt8) (k : Nat) (h4 : 4 ≤ t.length) (hl : u.length = t.length) (ht : okL t = true) (h1 : u.take k = t.take k) (h2 : u.drop (k + 4) = t.drop (k + 4)) : okL u = true ↔ u = t := by
 constructor
 ·intro h
  have r1 := (okL_of t h4).1 ht
  have r2 := (okL_of u (by omega)).1 h
  exact window ones u t k hl h1 h2 (r2.trans r1.symm)
 ·intro h; rw [h]; exact ht
end Crc
end Go.Proofs.YthgfpdidilolgaaGreat.Eld
