/-
  What a text is read as, and what the read records' text is, gives back what was there: the law AuditBack returns true for every input of small bulk; its card.
  The input's bulk is at most 1048576.
-/
import Derived.Test.YtehmcncclpimjaaDoorRows
import Derived.Test.YtehmcncclpimjaaDoorCards
import Derived.Test.YtehmcncclpimjaaDoorTie
import Derived.Test.YtehmcncclpimjaaDoorAuG
import Derived.Test.YtehmcncclpimjaaDoorAuT
import Derived.Test.YtehmcncclpimjaaDoorAuU
import Derived.WalkKit
import Derived.ProofKit
import Derived.OpenShut
import Derived.ShutString
import Derived.ChangeOld
import Derived.Below
import Derived.Lay
import Derived.Deep.DeepHandedRow
import Derived.Deep.DeepWitnessRowRef
import Derived.SevenTiedAt
namespace Go.Proofs.YtehmcncclpimjaaDoor.auditBackUpto
open Go.Sort Go.ChangeShapes Go.WideShapes Go.ChangeAt Go.RowKit
open Go.ChangeMaps (open_string shut_string)
set_option linter.unusedVariables false
set_option linter.unusedSimpArgs false
set_option maxRecDepth 10000

theorem own : ownKnob Tryd.prog.godebug = none := by kernel_rfl

theorem textL_ge : ∀ (L : List Rc), L.length ≤ (textL L).length
  | [] => Nat.zero_le _
  | r :: L => by
    rw [textL_cons, lineL_body, List.length_append, List.length_append, List.length_cons]
    have := textL_ge L
    simp
    omega
theorem tx_len {s : List UInt8} {o : Option (List Rc)} (h : IsTx s o) : (o.getD []).length ≤ s.length := by
  cases o with
  | none => exact Nat.zero_le _
  | some L => rw [← h.2.2]; exact textL_ge L

set_option maxHeartbeats 16000000 in
theorem walk (la : Option Addr) (L : List Rc) (lc : Nat) (lz : L.length * 40 ≤ 140737488351232) (lk : L.length ≤ lc) (lm : lc ≤ maxLen) (ln : L.length ≤ 1048576) (ls : ∀ x ∈ L, x.fit ∧ x.c.size ≤ 1048576) (x : Rc) (kx : x.fit) (kb : x.c.size ≤ 1048576) (s : ByteArray) (hs : s.size ≤ 1048576) (w : World) (hE : Te w) (hL : Li Rc.vals 0 la L w) : Calls Tryd.prog 5 #[.slice la L.length lc, .agg x.arr, .string s] w fun e w' => e = .returned (.bool true) ∧ Below w.heap.size w w' := by
  have b1 := blk_new w x.arr 27
  have hB := below_box w (.cells x.arr 27)
  have hll := lineL_len x kx kb
  have htl := textL_len L ls
  have hsb := bL_len s
  have hsg := segs_small (s := bL s) (by omega)
  have lf : ∀ y ∈ L, y.fit := fun y hy => (ls y hy).1
  have hsgT : Segs (bL (strB (textL L))) := by
    rw [bL_strB]
    exact segs_text (fun y hy => by have := lineL_len y (ls y hy).1 (ls y hy).2; omega)
  have hT40 : ((strB (textL L)).size + 1) * 40 ≤ 140737488355328 := by rw [strB_size]; omega
  have HO : Hid (∀ o, IsTx (bL (strB (textL L))) o → (chkA L = true ∧ o = some L) ∨ (chkA L = false ∧ o = none)) := fun o ho => by
    rw [bL_strB] at ho
    cases hc : chkA L with
    | true => exact .inl ⟨rfl, IsTx.one ho (show IsTx (textL L) (some L) from ⟨lf, hc, rfl⟩)⟩
    | false => exact .inr ⟨rfl, IsTx.one ho (show IsTx (textL L) none from fun M _ hM he => by rw [textL_inj he, hc] at hM; cases hM)⟩
  have HL : Hid (∀ o, IsLn (bL (strB (lineL x))) o → o = some x) := fun o ho => by
    rw [bL_strB] at ho
    exact IsLn.one ho (show IsLn (lineL x) (some x) from ⟨kx, rfl⟩)
  have p1 := fun W h => text_ok L lf la lc (by omega) (by omega) W h
  have p2 := fun W hE => read_ok (strB (textL L)) hT40 hsgT W hE
  have p3 := fun W h => line_ok x kx W h (by omega)
  have p4 := fun W hE => parse_ok (strB (lineL x)) (by rw [strB_size]; omega) W hE
  have p5 := fun W hE => read_ok s (by omega) hsg W hE
  have p6 := fun a c k W h => acheck_ok L a c k (by omega) W h
  have p7 := fun a c b d W hA hC => rsameC_ok L a b c d (by omega) W hA hC
  generalize strB (lineL x) = C1 at p3 p4 HL
  generalize strB (textL L) = C2 at p1 p2 HO
  clear hsgT hT40
  obtain ⟨nL, hnL⟩ : ∃ n, Hid (L.length = n) := ⟨_, rfl⟩
  rw [hnL.out] at p1 p6 p7 lk ⊢
  clear hll htl ls lf lz lm ln
  replace hL := hL.below hB
  replace hE := hE.next hB
  go_enter Tryd.func5, Tryd.ntmps5
  go_upto_region 1 with fail
  try simp only [Act.put, List.setIfInBounds_toArray, List.set_cons_zero, List.set_cons_succ]
  generalize w.alloc (.cells x.arr 27) = W at b1 hB hL hE ⊢
  obtain ⟨z, hz⟩ : ∃ z, Hid (w.heap.size = z) := ⟨_, rfl⟩
  rw [hz.out] at b1 ⊢
  go_wp2_with fail
  refine (p1 W hL hE.tb).mono ?_
  rintro e w1 ⟨rfl, hb⟩
  replace b1 := b1.below hb
  replace hL := hL.below hb
  replace hE := hE.next hb
  replace hB := hB.trans (hb.mono hB.size)
  clear hb
  go_wp2_with fail
  refine (p2 w1 hE).mono ?_
  rintro e w2 ⟨⟨o, pa, pc, ho, rfl, hA⟩, hb⟩
  replace hA := hA.mono (Nat.zero_le w1.heap.size)
  replace b1 := b1.below hb
  replace hL := hL.below hb
  replace hE := hE.next hb
  replace hB := hB.trans (hb.mono hB.size)
  clear hb
  have HC := HO.out o ho
  clear HO ho p1 p2
  obtain ⟨ch, hch⟩ : ∃ ch, chkA L = ch := ⟨_, rfl⟩
  rw [hch] at HC
  rw [hch] at p6
  go_wp2_with (refine load_blk rfl 27 _ rfl b1 rfl Tryd.underlying27 rfl sizeRc ?_)
  refine (p3 w2 hE.tb).mono ?_
  rintro e w3 ⟨rfl, hb⟩
  replace hA := hA.below hb
  replace b1 := b1.below hb
  replace hL := hL.below hb
  replace hE := hE.next hb
  replace hB := hB.trans (hb.mono hB.size)
  clear hb
  go_wp2_with fail
  refine (p4 w3 hE).mono ?_
  rintro e w4 ⟨⟨o4, ho4, _, rfl⟩, hb⟩
  obtain rfl := HL.out o4 ho4
  replace hA := hA.below hb
  replace b1 := b1.below hb
  replace hL := hL.below hb
  replace hE := hE.next hb
  replace hB := hB.trans (hb.mono hB.size)
  clear hb p3 p4 HL ho4
  rw [show (some x).getD Rc.zero = x from rfl, show (some x).isSome = true from rfl]
  have b2 := blk_new w4 x.arr 27
  have hb := below_box w4 (.cells x.arr 27)
  go_upto_region 3 with (go_big_may; first | refine alloc_zero zeroRc rfl rfl ?_ | refine store_new rfl 27 _ _ rfl (cells := x.arr) rfl rfl sizeRc rfl x.arr_one ?_)
  try simp only [Act.put, List.setIfInBounds_toArray, List.set_cons_zero, List.set_cons_succ]
  replace hA := hA.below hb
  replace b1 := b1.below hb
  replace hL := hL.below hb
  replace hE := hE.next hb
  replace hB := hB.trans (hb.mono hB.size)
  clear hb
  generalize w4.alloc (Obj.cells x.arr 27) = V at b1 b2 hL hE hB hA ⊢
  generalize w4.heap.size = z1 at b2 ⊢
  go_wp2_with fail
  refine (p5 V hE).mono ?_
  rintro e w5 ⟨⟨q, qa, qc, hq, rfl, hC⟩, hb⟩
  replace hC := hC.mono (Nat.zero_le V.heap.size)
  replace hA := hA.below hb
  replace b2 := b2.below hb
  replace b1 := b1.below hb
  replace hL := hL.below hb
  replace hE := hE.next hb
  replace hB := hB.trans (hb.mono hB.size)
  clear hb p5
  have hml := tx_len hq
  have HQ : Hid (∀ M, q = some M → bL s = textL M ∧ chkA M = true ∧ ∀ y ∈ M, y.fit) := fun M hM => by subst hM; exact ⟨hq.2.2.symm, hq.2.1, hq.1⟩
  clear hq
  have hkK : ∀ w, (binOp .eql 27 (.agg x.vals.toArray) (.agg x.vals.toArray)).run Tryd.prog w = .ok (.bool true) w := eqlRc x x true (Rc.same_self x)
  have hkA : ∀ w, (binOp .eql 27 (.agg x.arr) (.agg x.arr)).run Tryd.prog w = .ok (.bool true) w := eqlRc x x true (Rc.same_self x)
  go_upto_region 4 with fail
  try simp only [Act.put, List.setIfInBounds_toArray, List.set_cons_zero, List.set_cons_succ]
  rcases HC with ⟨rfl, rfl⟩ | ⟨rfl, rfl⟩
  · rw [show ((some L : Option (List Rc)).getD []) = L from rfl] at hA ⊢
    rw [show ((some L : Option (List Rc)).isSome) = true from rfl, hnL.out]
    clear hch
    cases q with
    | none =>
      rw [show ((none : Option (List Rc)).getD []) = [] from rfl] at hC ⊢
      rw [show ((none : Option (List Rc)).isSome) = false from rfl]
      clear HQ hml
      go_wp2_with (first | refine load_want rfl 27 _ rfl b1 rfl Tryd.underlying27 rfl sizeRc ?_ | refine load_want rfl 27 _ rfl b2 rfl Tryd.underlying27 rfl sizeRc ?_)
      refine (fixed_ok _ hE.tb).mono ?_
      rintro e wq ⟨rfl, hb⟩
      replace hL := hL.below hb
      replace hE := hE.next hb
      replace hA := hA.below hb
      replace hC := hC.below hb
      replace b1 := b1.below hb
      replace b2 := b2.below hb
      replace hB := hB.trans (hb.mono hB.size)
      clear hb
      go_wp2_with (first | refine load_want rfl 27 _ rfl b1 rfl Tryd.underlying27 rfl sizeRc ?_ | refine load_want rfl 27 _ rfl b2 rfl Tryd.underlying27 rfl sizeRc ?_)
      refine (p6 la lc lk _ hL).mono ?_
      rintro e wq ⟨rfl, hb⟩
      replace hL := hL.below hb
      replace hE := hE.next hb
      replace hA := hA.below hb
      replace hC := hC.below hb
      replace b1 := b1.below hb
      replace b2 := b2.below hb
      replace hB := hB.trans (hb.mono hB.size)
      clear hb
      go_wp2_with (first | refine load_want rfl 27 _ rfl b1 rfl Tryd.underlying27 rfl sizeRc ?_ | refine load_want rfl 27 _ rfl b2 rfl Tryd.underlying27 rfl sizeRc ?_)
      refine (p7 _ _ _ _ _ hA.li hL).mono ?_
      rintro e wq ⟨rfl, hb⟩
      replace hL := hL.below hb
      replace hE := hE.next hb
      replace hA := hA.below hb
      replace hC := hC.below hb
      replace b1 := b1.below hb
      replace b2 := b2.below hb
      replace hB := hB.trans (hb.mono hB.size)
      clear hb
      go_wp2_with (first | refine load_want rfl 27 _ rfl b1 rfl Tryd.underlying27 rfl sizeRc ?_ | refine load_want rfl 27 _ rfl b2 rfl Tryd.underlying27 rfl sizeRc ?_)
      go_ret
      exact ⟨rfl, hB⟩
    | some M =>
      obtain ⟨m1, m2, m3⟩ := HQ.out M rfl
      rw [show ((some M : Option (List Rc)).getD []) = M from rfl] at hC hml ⊢
      rw [show ((some M : Option (List Rc)).isSome) = true from rfl]
      have t1 := fun W h hT => text_ok M m3 qa qc (by omega) (by rw [← m1]; omega) W h hT
      have t2 := fun W h => acheck_ok M qa qc hC.cap (by omega) W h
      rw [← m1, strB_bL] at t1
      rw [m2] at t2
      obtain ⟨nM, hnM⟩ : ∃ n, Hid (M.length = n) := ⟨_, rfl⟩
      rw [hnM.out] at t1 t2 ⊢
      replace hC := (hC.li.mono (Nat.zero_le 0))
      clear m1 m2 m3 HQ hml hsb hsg
      go_wp2_with (first | refine load_want rfl 27 _ rfl b1 rfl Tryd.underlying27 rfl sizeRc ?_ | refine load_want rfl 27 _ rfl b2 rfl Tryd.underlying27 rfl sizeRc ?_)
      refine (fixed_ok _ hE.tb).mono ?_
      rintro e wq ⟨rfl, hb⟩
      replace hL := hL.below hb
      replace hE := hE.next hb
      replace hA := hA.below hb
      replace hC := hC.below hb
      replace b1 := b1.below hb
      replace b2 := b2.below hb
      replace hB := hB.trans (hb.mono hB.size)
      clear hb
      go_wp2_with (first | refine load_want rfl 27 _ rfl b1 rfl Tryd.underlying27 rfl sizeRc ?_ | refine load_want rfl 27 _ rfl b2 rfl Tryd.underlying27 rfl sizeRc ?_)
      refine (p6 la lc lk _ hL).mono ?_
      rintro e wq ⟨rfl, hb⟩
      replace hL := hL.below hb
      replace hE := hE.next hb
      replace hA := hA.below hb
      replace hC := hC.below hb
      replace b1 := b1.below hb
      replace b2 := b2.below hb
      replace hB := hB.trans (hb.mono hB.size)
      clear hb
      go_wp2_with (first | refine load_want rfl 27 _ rfl b1 rfl Tryd.underlying27 rfl sizeRc ?_ | refine load_want rfl 27 _ rfl b2 rfl Tryd.underlying27 rfl sizeRc ?_)
      refine (p7 _ _ _ _ _ hA.li hL).mono ?_
      rintro e wq ⟨rfl, hb⟩
      replace hL := hL.below hb
      replace hE := hE.next hb
      replace hA := hA.below hb
      replace hC := hC.below hb
      replace b1 := b1.below hb
      replace b2 := b2.below hb
      replace hB := hB.trans (hb.mono hB.size)
      clear hb
      go_wp2_with (first | refine load_want rfl 27 _ rfl b1 rfl Tryd.underlying27 rfl sizeRc ?_ | refine load_want rfl 27 _ rfl b2 rfl Tryd.underlying27 rfl sizeRc ?_)
      refine (t1 _ hC hE.tb).mono ?_
      rintro e wq ⟨rfl, hb⟩
      replace hL := hL.below hb
      replace hE := hE.next hb
      replace hA := hA.below hb
      replace hC := hC.below hb
      replace b1 := b1.below hb
      replace b2 := b2.below hb
      replace hB := hB.trans (hb.mono hB.size)
      clear hb
      go_wp2_with (first | refine load_want rfl 27 _ rfl b1 rfl Tryd.underlying27 rfl sizeRc ?_ | refine load_want rfl 27 _ rfl b2 rfl Tryd.underlying27 rfl sizeRc ?_)
      refine (t2 _ hC).mono ?_
      rintro e wq ⟨rfl, hb⟩
      replace hL := hL.below hb
      replace hE := hE.next hb
      replace hA := hA.below hb
      replace hC := hC.below hb
      replace b1 := b1.below hb
      replace b2 := b2.below hb
      replace hB := hB.trans (hb.mono hB.size)
      clear hb
      go_wp2_with (first | refine load_want rfl 27 _ rfl b1 rfl Tryd.underlying27 rfl sizeRc ?_ | refine load_want rfl 27 _ rfl b2 rfl Tryd.underlying27 rfl sizeRc ?_)
      go_ret
      exact ⟨rfl, hB⟩
  · rw [show ((none : Option (List Rc)).getD []) = [] from rfl] at hA ⊢
    rw [show ((none : Option (List Rc)).isSome) = false from rfl]
    clear hch
    cases q with
    | none =>
      rw [show ((none : Option (List Rc)).getD []) = [] from rfl] at hC ⊢
      rw [show ((none : Option (List Rc)).isSome) = false from rfl]
      clear HQ hml
      go_wp2_with (first | refine load_want rfl 27 _ rfl b1 rfl Tryd.underlying27 rfl sizeRc ?_ | refine load_want rfl 27 _ rfl b2 rfl Tryd.underlying27 rfl sizeRc ?_)
      refine (fixed_ok _ hE.tb).mono ?_
      rintro e wq ⟨rfl, hb⟩
      replace hL := hL.below hb
      replace hE := hE.next hb
      replace hA := hA.below hb
      replace hC := hC.below hb
      replace b1 := b1.below hb
      replace b2 := b2.below hb
      replace hB := hB.trans (hb.mono hB.size)
      clear hb
      go_wp2_with (first | refine load_want rfl 27 _ rfl b1 rfl Tryd.underlying27 rfl sizeRc ?_ | refine load_want rfl 27 _ rfl b2 rfl Tryd.underlying27 rfl sizeRc ?_)
      refine (p6 la lc lk _ hL).mono ?_
      rintro e wq ⟨rfl, hb⟩
      replace hL := hL.below hb
      replace hE := hE.next hb
      replace hA := hA.below hb
      replace hC := hC.below hb
      replace b1 := b1.below hb
      replace b2 := b2.below hb
      replace hB := hB.trans (hb.mono hB.size)
      clear hb
      go_wp2_with (first | refine load_want rfl 27 _ rfl b1 rfl Tryd.underlying27 rfl sizeRc ?_ | refine load_want rfl 27 _ rfl b2 rfl Tryd.underlying27 rfl sizeRc ?_)
      go_ret
      exact ⟨rfl, hB⟩
    | some M =>
      obtain ⟨m1, m2, m3⟩ := HQ.out M rfl
      rw [show ((some M : Option (List Rc)).getD []) = M from rfl] at hC hml ⊢
      rw [show ((some M : Option (List Rc)).isSome) = true from rfl]
      have t1 := fun W h hT => text_ok M m3 qa qc (by omega) (by rw [← m1]; omega) W h hT
      have t2 := fun W h => acheck_ok M qa qc hC.cap (by omega) W h
      rw [← m1, strB_bL] at t1
      rw [m2] at t2
      obtain ⟨nM, hnM⟩ : ∃ n, Hid (M.length = n) := ⟨_, rfl⟩
      rw [hnM.out] at t1 t2 ⊢
      replace hC := (hC.li.mono (Nat.zero_le 0))
      clear m1 m2 m3 HQ hml hsb hsg
      go_wp2_with (first | refine load_want rfl 27 _ rfl b1 rfl Tryd.underlying27 rfl sizeRc ?_ | refine load_want rfl 27 _ rfl b2 rfl Tryd.underlying27 rfl sizeRc ?_)
      refine (fixed_ok _ hE.tb).mono ?_
      rintro e wq ⟨rfl, hb⟩
      replace hL := hL.below hb
      replace hE := hE.next hb
      replace hA := hA.below hb
      replace hC := hC.below hb
      replace b1 := b1.below hb
      replace b2 := b2.below hb
      replace hB := hB.trans (hb.mono hB.size)
      clear hb
      go_wp2_with (first | refine load_want rfl 27 _ rfl b1 rfl Tryd.underlying27 rfl sizeRc ?_ | refine load_want rfl 27 _ rfl b2 rfl Tryd.underlying27 rfl sizeRc ?_)
      refine (p6 la lc lk _ hL).mono ?_
      rintro e wq ⟨rfl, hb⟩
      replace hL := hL.below hb
      replace hE := hE.next hb
      replace hA := hA.below hb
      replace hC := hC.below hb
      replace b1 := b1.below hb
      replace b2 := b2.below hb
      replace hB := hB.trans (hb.mono hB.size)
      clear hb
      go_wp2_with (first | refine load_want rfl 27 _ rfl b1 rfl Tryd.underlying27 rfl sizeRc ?_ | refine load_want rfl 27 _ rfl b2 rfl Tryd.underlying27 rfl sizeRc ?_)
      refine (t1 _ hC hE.tb).mono ?_
      rintro e wq ⟨rfl, hb⟩
      replace hL := hL.below hb
      replace hE := hE.next hb
      replace hA := hA.below hb
      replace hC := hC.below hb
      replace b1 := b1.below hb
      replace b2 := b2.below hb
      replace hB := hB.trans (hb.mono hB.size)
      clear hb
      go_wp2_with (first | refine load_want rfl 27 _ rfl b1 rfl Tryd.underlying27 rfl sizeRc ?_ | refine load_want rfl 27 _ rfl b2 rfl Tryd.underlying27 rfl sizeRc ?_)
      refine (t2 _ hC).mono ?_
      rintro e wq ⟨rfl, hb⟩
      replace hL := hL.below hb
      replace hE := hE.next hb
      replace hA := hA.below hb
      replace hC := hC.below hb
      replace b1 := b1.below hb
      replace b2 := b2.below hb
      replace hB := hB.trans (hb.mono hB.size)
      clear hb
      go_wp2_with (first | refine load_want rfl 27 _ rfl b1 rfl Tryd.underlying27 rfl sizeRc ?_ | refine load_want rfl 27 _ rfl b2 rfl Tryd.underlying27 rfl sizeRc ?_)
      go_ret
      exact ⟨rfl, hB⟩


theorem laid_met (os : Os) : laidMetH Tryd.prog Rows.auditBackUptoRow.laid ((World.laidAll Tryd.prog os Rows.auditBackUptoRow.laid).forCall (fun _ _ => 0) ⟨#[], #[.slice none 0 0, .agg Rc.zero.arr, .string ByteArray.empty], []⟩).memory := by
  rw [MakeChecks.laidMetH_plain _ _ _ (by kernel_rfl)]
  exact laidMet_laidAll _ (by kernel_rfl) (by kernel_rfl)
def wdata (H : Type) : List (DataW H) := [.nil, .agg [.lit (.int .u64 0), .lit (.int .u32 0), .lit (.string []), .lit (.int .i64 0)], .lit (.string [])]
theorem reads (os : Os) {H : Type} (enc : TypeId × Value → H) : ∃ places, DataW.whole enc Tryd.prog ((World.laidAll Tryd.prog os Rows.auditBackUptoRow.laid).forCall (fun _ _ => 0) ⟨#[], #[.slice none 0 0, .agg Rc.zero.arr, .string ByteArray.empty], []⟩).memory Tryd.f5.params.toList (Rows.OpenSpec.upto Rows.auditBackSpec).vars false (#[.slice none 0 0, .agg Rc.zero.arr, .string ByteArray.empty] : Array Value).toList 8 = some (wdata H, [], places) :=
  ⟨[], by kernel_rfl⟩

set_option maxRecDepth 100000 in
theorem lifted (os : Os) (started : os.Started) (H : Type) (enc : TypeId × Value → H) (F : Stop.Interp) :
    ReturnsInHanded {} Tryd.checked os 5 .any ((Rows.OpenSpec.upto Rows.auditBackSpec).preRow enc Tryd.prog Tryd.f5 Rows.auditBackUptoRow.domain false Rows.auditBackUptoRow.laid) (((Rows.OpenSpec.upto Rows.auditBackSpec).at F).post enc Tryd.prog Tryd.f5 false true false false) := by
  obtain ⟨places, hx⟩ := reads os enc
  refine returnsInHanded_of_row (C := Tryd.checked) (s := Rows.OpenSpec.upto Rows.auditBackSpec) own started (by kernel_rfl) Tryd.func5
    (witness_row_atRef (enc := enc) (C := Tryd.checked) false (World.laidAll Tryd.prog os Rows.auditBackUptoRow.laid) #[.slice none 0 0, .agg Rc.zero.arr, .string ByteArray.empty] (World.laidAll_os _ _ _) (by kernel_rfl) (by kernel_rfl) (by kernel_rfl)
      (OpenSpec.preRow_of_cond 8 hx (by kernel_rfl) (fun k hk => by cases hk; kernel_rfl) (by kernel_rfl) (laid_met os))) ?_
  intro W base args ds gs before hval0 hW hcnd hcond hsz0 hL0 hsh _
  have hL := hL0
  rw [MakeChecks.laidMetH_plain _ _ _ (by kernel_rfl)] at hL
  have hval : ∀ (j : Nat) t v, Tryd.f5.params[j]? = some t → args[j]? = some v → Value.okWide Tryd.prog W .any base t v := hval0
  have hsz : (DataW.weightsEach Tryd.prog (Tryd.f5.params.toList ++ Rows.auditBackSpec.plain.varTypes Tryd.prog) (ds ++ gs)).all (· ≤ reachBytes) = true := hsz0
  have hbk : ∀ d ∈ ds ++ gs, Rows.uptoBulk d ≤ 1048576 := fun d hd => bulk_small (hcond _ rfl) hd
  have hW' := hW
  obtain ⟨p, q, hA0, hV, rfl, hfz, hnd⟩ := hW
  have hA : DataW.TrodAll enc Tryd.prog W 0 (fun _ => true) true Tryd.f5.params.toList args.toList ds p := hA0
  rw [Tryd.params5] at hA hval hsz
  obtain ⟨v0, vs0, d0, ds0, p0, q0, hargs, rfl, rfl, h0, r0⟩ := trodAll_cons hA
  obtain ⟨v1, vs1, d1, ds1, p1, q1, rfl, rfl, rfl, h1, r1⟩ := trodAll_cons r0
  obtain ⟨v2, vs2, d2, ds2, p2, q2, rfl, rfl, rfl, h2, r2⟩ := trodAll_cons r1
  obtain ⟨rfl, rfl, rfl⟩ := trodAll_nil r2
  obtain rfl : args = #[v0, v1, v2] := by cases args; simp_all
  obtain ⟨rfl, rfl⟩ := trodVars_none hV
  obtain ⟨la0, L0, lc0, rfl, lz0, hc0, hm0, lb0, ls0, hS0⟩ := open_RcsB (okWide_slice Tryd.underlying22 (hval 0 22 v0 rfl rfl)) (fun n hn => of_decide_eq_true (List.all_eq_true.1 hsz _ (DataW.weights_mem_each (j := 0) rfl rfl n hn))) (hbk _ (by simp)) h0
  obtain ⟨x1, rfl, kx1, kb1⟩ := open_RcB (by obtain ⟨cs, h1, _⟩ := okWide_struct Tryd.underlying27 (hval 1 27 v1 rfl rfl); exact ⟨cs, h1⟩) (fun n hn => of_decide_eq_true (List.all_eq_true.1 hsz _ (DataW.weights_mem_each (j := 1) rfl rfl n hn))) (hbk _ (by simp)) h1
  obtain ⟨a2, rfl, rfl, rfl, w2⟩ := open_string Tryd.underlying9 (hval 2 9 v2 rfl rfl) h2
  have z2 : a2.size ≤ 1048576 := bulk_str a2 _ rfl (hbk _ (by simp))
  have hE : Te W := te_of hsh hL
  have hA2 := hA0
  clear hA0 hval0 hsz0
  simp only [List.append_nil] at hW'
  refine (walk la0 L0 lc0 lz0 hc0 hm0 lb0 ls0 x1 kx1 kb1 a2 z2 W hE hS0).mono fun e W' ⟨he, bel⟩ => ?_
  subst he
  exact ⟨_, rfl, _, _, _, [], _, [], hW', trodAll_mk1 (shut_bool Tryd.underlying4 _), (stays_all laidOut bel (by kernel_rfl) hA2), rfl, bel.frame _, fun h => by cases h⟩

theorem said : Rows.AuditBackUptoSaid :=
  OpenClaim.holds_of_cond 5 Tryd.f5 rfl rfl rfl rfl rfl rfl rfl ⟨rfl, rfl, rfl, rfl, rfl⟩ rfl rfl rfl rfl rfl (by kernel_rfl) Tryd.func5 (by kernel_rfl)
    (of_decide_eq_true (by kernel_rfl)) (by unfold Func.isWrapper; first | (rw [if_pos (by decide +kernel)]; kernel_rfl) | (rw [if_neg (by decide +kernel)]; exact ⟨rfl, rfl⟩))
    (fun os started H enc _ F => by rw [OpenClaim.pre_eq_preRow]; exact lifted os started H enc F)

theorem plain (f : FuncId) (fn : Func) (hf : Tryd.pinned.checked.prog.funcNamed "congress/congresslaw20.AuditBack" = some f) (hfn : Tryd.pinned.checked.prog.funcs[f]? = some fn) :
    true = Tryd.pinned.checked.prog.looks [] ∧ ∀ (j : Nat) t, fn.params[j]? = some t → Tryd.pinned.checked.prog.wantsStandIn t = false := by
  obtain rfl : f = 5 := Option.some.inj ((show Tryd.prog.funcNamed "congress/congresslaw20.AuditBack" = some 5 by kernel_rfl).symm.trans hf) |>.symm
  obtain rfl : fn = Tryd.f5 := (Option.some.inj (Tryd.func5.symm.trans hfn)).symm
  refine ⟨by kernel_rfl, fun j t ht => ?_⟩
  rw [Tryd.params5] at ht
  have hm : t ∈ [22, 27, 9] := by simpa using Array.mem_of_getElem? ht
  have hall : ([22, 27, 9].all fun u => !Tryd.prog.wantsStandIn u) = true := by kernel_rfl
  have := List.all_eq_true.1 hall t hm
  show Tryd.prog.wantsStandIn t = false
  simpa using this

theorem card : Rows.AuditBackUptoCardSaid :=
  Claim7.holds_tied_plain_at .later [] _ _ _ _ said (fun _ h => by cases h) (by kernel_rfl) (fun _ h => by cases h) auditBackUpto_row_tie rfl ⟨rfl, rfl⟩ (by kernel_rfl) rfl plain (by kernel_rfl)

end Go.Proofs.YtehmcncclpimjaaDoor.auditBackUpto
namespace Go.Proofs.YtehmcncclpimjaaDoor

theorem auditBackUpto_holds : Rows.AuditBackUptoCardSaid := auditBackUpto.card
#print axioms auditBackUpto_holds

end Go.Proofs.YtehmcncclpimjaaDoor
