/-
  Calls whose answers the document fixes: the law's own fixed returns true.
  Condition: the table of powers of ten lies there.
-/
import Derived.Test.YtehmcncclpimjaaDoorAuE
namespace Go.Proofs.YtehmcncclpimjaaDoor
set_option maxRecDepth 10000
open Go.RowKit Go.Sort
set_option linter.unusedVariables false
set_option linter.unusedSimpArgs false

/- A guarded load of cells that lie at a place of which only they are known. -/
theorem load_wrange {P : Program} {ops : Array Oper} {rest : List Oper} {op : Oper} {a : Act} {w : World} {Q : Exit → Act → World → Prop} (hw : Region.wanted op (yielded ops a.tmps) = true) (ty : TypeId) (x : Operand) (ho : op.op = .load ty x)
    {B o : Nat} (cs : List Value) (hr : w.rangeAt B o cs) (hx : a.eval x = .pointer (some ⟨B, o, none⟩)) {d : TypeDesc} (hu : P.underlying ty = some d) (hd : d.isRow = true) (hi : (P.info? ty).map (·.size) = some cs.length)
    (h : wpList P ops Q rest (a.put op.dst (.agg cs.toArray)) w) : wpList P ops Q (op :: rest) a w :=
  wpList_step fun _ hK => by
    rw [if_pos hw]
    exact wp_load_mid ty x ho B o hx cs d hr hu hd hi (hK _ _ h)

def fixA : Rc := ⟨1, 7, { data := #[111, 112, 101, 110] }, 0⟩
def fixB : Rc := ⟨2, 7, { data := #[97, 34, 98] }, 1⟩
theorem fixA_line : strB (lineL fixA) = { data := #[49, 32, 55, 32, 48, 32, 34, 111, 112, 101, 110, 34, 10] } := by
  show strB (digs 1 ++ 32 :: (digs 7 ++ 32 :: (sgns 0 ++ 32 :: 34 :: (quo [111, 112, 101, 110] ++ [34, 10])))) = _
  have hs : sgns 0 = digs 0 := by unfold sgns; rw [if_neg (by decide)]; rfl
  rw [hs, digs_lt (by decide), digs_lt (by decide), digs_lt (by decide)]
  rfl
theorem fixAB_text : strB (textL [fixA, fixB]) = { data := #[49, 32, 55, 32, 48, 32, 34, 111, 112, 101, 110, 34, 10, 50, 32, 55, 32, 49, 32, 34, 97, 37, 50, 50, 98, 34, 10] } := by
  show strB ((digs 1 ++ 32 :: (digs 7 ++ 32 :: (sgns 0 ++ 32 :: 34 :: (quo [111, 112, 101, 110] ++ [34, 10])))) ++ ((digs 2 ++ 32 :: (digs 7 ++ 32 :: (sgns 1 ++ 32 :: 34 :: (quo [97, 34, 98] ++ [34, 10])))) ++ [])) = _
  have hs : sgns 0 = digs 0 := by unfold sgns; rw [if_neg (by decide)]; rfl
  have hs1 : sgns 1 = digs 1 := by unfold sgns; rw [if_neg (by decide)]; rfl
  rw [hs, hs1, digs_lt (by decide), digs_lt (by decide), digs_lt (by decide), digs_lt (by decide)]
  rfl
theorem fixA_fit : fixA.fit := ⟨by decide, by decide, by decide, by decide, by decide⟩
theorem fixB_fit : fixB.fit := ⟨by decide, by decide, by decide, by decide, by decide⟩
theorem fix_len : (lineL fixA).length = 13 := by rw [← strB_size, fixA_line]; rfl
theorem fix_len2 : (textL [fixA, fixB]).length = 27 := by rw [← strB_size, fixAB_text]; rfl
theorem fix_add1 : addA [] 7 { data := #[111, 112, 101, 110] } 0 = [fixA] := rfl
theorem fix_add2 : addA [fixA] 3 { data := #[97, 34, 98] } 1 = [fixA, fixB] := rfl
theorem fix_chk : chkA [fixA, fixB] = true := by decide
theorem fix_f1 : failN [fixA] = 0 := by decide
theorem fix_f2 : failN [fixA, fixB] = 1 := by decide

set_option maxHeartbeats 4000000 in
theorem fixed_ok (w : World) (hT : Tb w) : Calls Tryd.prog 10 #[] w fun e w' => e = .returned (.bool true) ∧ Below w.heap.size w w' := by
  have q1 : Calls Tryd.prog 8 #[.slice none 0 0, .int .u32 7, .string { data := #[111, 112, 101, 110] }, .int .i64 0] w fun e w' => (∃ a c, e = .returned (.slice a 1 c) ∧ 1 ≤ c ∧ Li Rc.vals 0 a [fixA] w') ∧ Below w.heap.size w w' :=
    (add_ok 7 { data := #[111, 112, 101, 110] } 0 [] none 0 (by decide) w (.inl rfl)).mono fun e w' h => by
      obtain ⟨⟨a, c, e1, hG⟩, hb⟩ := h
      rw [fix_add1] at e1 hG
      exact ⟨⟨a, c, e1, hG.cap, hG.li.mono (Nat.zero_le _)⟩, hb⟩
  have q2 : ∀ a c w, Li Rc.vals 0 a [fixA] w → Calls Tryd.prog 8 #[.slice a 1 c, .int .u32 3, .string { data := #[97, 34, 98] }, .int .i64 1] w fun e w' => (∃ a c, e = .returned (.slice a 2 c) ∧ 2 ≤ c ∧ Li Rc.vals 0 a [fixA, fixB] w') ∧ Below w.heap.size w w' :=
    fun a c w hS => (add_ok 3 { data := #[97, 34, 98] } 1 [fixA] a c (by decide) w hS).mono fun e w' h => by
      obtain ⟨⟨a, c, e1, hG⟩, hb⟩ := h
      rw [fix_add2] at e1 hG
      exact ⟨⟨a, c, e1, hG.cap, hG.li.mono (Nat.zero_le _)⟩, hb⟩
  have q3 := fun w hT => line_ok fixA fixA_fit w hT (by rw [fix_len]; decide)
  rw [fixA_line] at q3
  have q4 : ∀ a c w, Li Rc.vals 0 a [fixA, fixB] w → Tb w → Calls Tryd.prog 22 #[.slice a 2 c] w fun e w' => e = .returned (.string { data := #[49, 32, 55, 32, 48, 32, 34, 111, 112, 101, 110, 34, 10, 50, 32, 55, 32, 49, 32, 34, 97, 37, 50, 50, 98, 34, 10] }) ∧ Below w.heap.size w w' := fun a c w hS hT => by
    have h := text_ok [fixA, fixB] (fun x hx => by
      rcases List.mem_cons.1 hx with rfl | hx
      · exact fixA_fit
      · rw [List.mem_singleton] at hx; subst hx; exact fixB_fit) a c (by decide) (by rw [fix_len2]; decide) w hS hT
    rw [fixAB_text] at h
    exact h
  have q5 : ∀ a c, 2 ≤ c → ∀ w, Li Rc.vals 0 a [fixA, fixB] w → Calls Tryd.prog 12 #[.slice a 2 c] w fun e w' => e = .returned (.bool true) ∧ Below w.heap.size w w' := fun a c hc w hS => by
    have h := acheck_ok [fixA, fixB] a c hc (by decide) w hS
    rw [fix_chk] at h
    exact h
  have q6 : ∀ a c w, Li Rc.vals 0 a [fixA, fixB] w → Calls Tryd.prog 14 #[.slice a 2 c] w fun e w' => e = .returned (.int .i64 1) ∧ Below w.heap.size w w' := fun a c w hS => by
    have h := failed_ok [fixA, fixB] a c (by decide) w hS
    rw [fix_f2] at h
    exact h
  have q7 : ∀ a c w, Li Rc.vals 0 a [fixA] w → Calls Tryd.prog 14 #[.slice a 1 c] w fun e w' => e = .returned (.int .i64 0) ∧ Below w.heap.size w w' := fun a c w hS => by
    have h := failed_ok [fixA] a c (by decide) w hS
    rw [fix_f1] at h
    exact h
  go_enter Tryd.func10, Tryd.ntmps10
  go_wp2_with fail
  refine q1.mono ?_
  rintro e w1 ⟨⟨a, c, rfl, hc, hA⟩, hB⟩
  clear q1
  go_wp2_with fail
  refine (q2 a c w1 hA).mono ?_
  rintro e w2 ⟨⟨a2, c2, rfl, hc2, hA2⟩, hb⟩
  replace hA := hA.below hb
  replace hB := below_next hB hb
  clear q2 hb
  have hT2 := hT.next hB
  obtain ⟨b, o, rfl, _, hbl, hr⟩ := hA.at Rc.vals_length 0 fixA rfl
  have hr0 : w2.rangeAt b o fixA.vals := by simpa using hr
  go_wp2_with (refine load_wrange rfl 27 _ rfl fixA.vals hr0 rfl Tryd.underlying27 rfl sizeRc ?_)
  refine (q3 w2 hT2).mono ?_
  rintro e w3 ⟨rfl, hb⟩
  replace hA := hA.below hb
  replace hA2 := hA2.below hb
  replace hT2 := hT2.next hb
  replace hB := below_next hB hb
  clear q3 hb hr hr0 hbl
  go_wp2_with fail
  refine (q4 _ _ w3 hA2 hT2).mono ?_
  rintro e w4 ⟨rfl, hb⟩
  replace hA := hA.below hb
  replace hA2 := hA2.below hb
  replace hB := below_next hB hb
  clear q4 hb hT2
  go_wp2_with fail
  refine (q5 _ _ hc2 w4 hA2).mono ?_
  rintro e w5 ⟨rfl, hb⟩
  replace hA := hA.below hb
  replace hA2 := hA2.below hb
  replace hB := below_next hB hb
  clear q5 hb
  go_wp2_with fail
  refine (q6 _ _ w5 hA2).mono ?_
  rintro e w6 ⟨rfl, hb⟩
  replace hA := hA.below hb
  replace hB := below_next hB hb
  clear q6 hb hA2
  go_wp2_with fail
  refine (q7 _ _ w6 hA).mono ?_
  rintro e w7 ⟨rfl, hb⟩
  replace hB := below_next hB hb
  clear q7 hb hA
  go_wp2_with fail
  go_ret
  exact ⟨rfl, hB⟩

end Go.Proofs.YtehmcncclpimjaaDoor
