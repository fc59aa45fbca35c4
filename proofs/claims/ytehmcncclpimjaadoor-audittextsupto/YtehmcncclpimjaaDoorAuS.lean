/-
  What strings.SplitAfterSeq hands back; an operation within a round, by its law outside of rounds.
  No condition.
-/
import Derived.Test.YtehmcncclpimjaaDoorAuR
namespace Go.Proofs.YtehmcncclpimjaaDoor
set_option maxRecDepth 10000
open Go.RowKit Go.Sort Go.Shelf
set_option linter.unusedVariables false
set_option linter.unusedSimpArgs false

def SeqMade (s : ByteArray) (z : Nat) (e : Ending) (w w' : World) : Prop := e = .returned (.func (.func 58) #[] #[.pointer (some ⟨z + 1, 0, none⟩), .pointer (some ⟨z, 0, none⟩), .pointer (some ⟨z + 2, 0, none⟩)]) ∧
  Boxed w' z 9 (.string s) ∧ Boxed w' (z + 1) 9 (.string { data := #[10] }) ∧ Boxed w' (z + 2) 3 (.int .i64 1) ∧ Below z w w' ∧ w'.heap.size = z + 3
theorem seq_made (s : ByteArray) (w : World) : SeqMade s w.heap.size (.returned (.func (.func 58) #[] #[.pointer (some ⟨w.heap.size + 1, 0, none⟩), .pointer (some ⟨w.heap.size, 0, none⟩), .pointer (some ⟨w.heap.size + 2, 0, none⟩)])) w (((w.alloc (.cells #[.string s] 9)).alloc (.cells #[.string { data := #[10] }] 9)).alloc (.cells #[.int .i64 1] 3)) := by
  have b0 := Boxed.new w 9 (.string s)
  have b1 := Boxed.new (w.alloc (.cells #[.string s] 9)) 9 (.string { data := #[10] })
  have b2 := Boxed.new ((w.alloc (.cells #[.string s] 9)).alloc (.cells #[.string { data := #[10] }] 9)) 3 (.int .i64 1)
  simp only [World.size_alloc] at b1 b2
  exact ⟨rfl, (b0.alloc _).alloc _, b1.alloc _, b2, (((Below.refl _ w).alloc (Nat.le_refl _) _).alloc (by simp) _).alloc (by simp; omega) _, by simp⟩
set_option maxHeartbeats 2000000 in
theorem sseq_ok (s : ByteArray) (w : World) : Calls Tryd.prog 45 #[.string s, .string { data := #[10] }, .int .i64 1] w fun e w' => SeqMade s w.heap.size e w w' := by
  have h := seq_made s w
  go_enter Tryd.func45, Tryd.ntmps45
  go_wp2_with fail
  go_ret
  exact h
set_option maxHeartbeats 2000000 in
theorem saseq_ok (s : ByteArray) (w : World) : Calls Tryd.prog 32 #[.string s, .string { data := #[10] }] w fun e w' => SeqMade s w.heap.size e w w' := by
  have e10 : (ByteArray.mk #[10]).size = 1 := rfl
  go_enter Tryd.func32, Tryd.ntmps32
  go_wp2_with fail
  refine (sseq_ok s w).mono ?_
  rintro e w' ⟨rfl, h⟩
  go_wp2_with fail
  go_ret
  exact ⟨rfl, h⟩

theorem in_op {l n : Nat} {ops : Array Oper} {Q : Exit → Act → World → Prop} {rest : List Oper} {o : Oper} {a : Act} {w : World} (hg : o.guard = none) (hd : ∀ c, o.op ≠ .defer c)
    (h : ∀ K : Act → World → Prop, (∀ a w, wpListIn (Fence.wide.inRound l) n Tryd.prog ops Q rest a w → K a w) → o.wp Tryd.prog a w K Q) : wpListIn (Fence.wide.inRound l) n Tryd.prog ops Q (o :: rest) a w := by
  have hk := h _ (fun _ _ x => x)
  unfold wpListIn
  rw [if_pos (by simp [Region.wanted, hg])]
  refine ⟨fun _ _ => trivial, ?_⟩
  rw [Oper.semAt_eq _ _ _ hd]
  unfold Oper.wp at hk
  revert hk
  generalize (execOp a.eval o).run Tryd.prog w = r
  intro hk
  unfold Oper.upon at hk
  unfold Oper.uponIn
  split at hk
  · exact hk
  · exact hk
  · exact hk
  · exact ⟨fun h => by simp [Fence.wide] at h, CallsIn.inRound l (callsIn_wide.2 hk)⟩
  · refine ⟨fun h => by simp [Fence.wide] at h, fun c cs _ => ?_⟩
    obtain ⟨v, w', r, s⟩ := hk c cs
    exact ⟨v, w', r, stepsIn_wide.2 s⟩
  · exact hk
  · exact hk.elim

end Go.Proofs.YtehmcncclpimjaaDoor
