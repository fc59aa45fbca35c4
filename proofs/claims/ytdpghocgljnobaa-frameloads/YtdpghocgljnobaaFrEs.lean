/-
  Two lists with the same entries are the same: what the document's Entries returns.
  Condition: the two lists hold the same entries.
-/
import Derived.Test.YtdpghocgljnobaaFrLa
import Derived.BigQuiet
namespace Go.Proofs.Ytdpghocgljnobaa
open Go.RowKit Go.Sort

set_option maxHeartbeats 2000000 in
theorem entries_same (a b : Option Addr) (L : List En) (c d : Nat) (hlen : L.length ≤ 140737488355328) (w : World) (ha : Sl a L w) (hb : Sl b L w) :
    Calls Try.prog 15 #[.slice a L.length c, .slice b L.length d] w fun r w' => r = .returned (.bool true) ∧ Below w.heap.size w w' := by
  generalize hn : L.length = ln at hlen
  have hl0 : (ln : Int) ≤ 140737488355328 := by omega
  go_enter Try.func15, Try.ntmps15
  go_wp2_with fail
  go_loopw [5] (fun i w' => ∃ j : Nat, j ≤ ln ∧ i = .int .i64 j ∧ Below w.heap.size w w') (fun i _ => ln - (intOf i).toNat)
  case atStart => exact ⟨0, by omega, rfl, .refl _ _⟩
  case round =>
    obtain ⟨j, hj, rfl, hbl⟩ := hrel
    by_cases hjl : j < ln
    · have j0 : (0 : Int) ≤ (j : Int) := by omega
      have j2 : (j : Int) < (ln : Int) := by omega
      obtain ⟨e, he⟩ : ∃ e, L[j]? = some e := ⟨_, List.getElem?_eq_getElem (by omega)⟩
      rcases ha with rfl | ⟨ba, oa, rfl, hlta, hra⟩
      · simp at hn; omega
      rcases hb with rfl | ⟨bb, ob, rfl, hltb, hrb⟩
      · simp at hn; omega
      have hA := range_at6 (w := wr) (fun x v hv => by rw [hbl.cell (p := ⟨ba, oa + x, none⟩) hlta]; exact hra x v hv) j e he
      have hB := range_at6 (w := wr) (fun x v hv => by rw [hbl.cell (p := ⟨bb, ob + x, none⟩) hltb]; exact hrb x v hv) j e he
      have kne := neq_ent e.k e.sv e.g e.se e.n e.t e.k e.sv e.g e.se e.n e.t true (by simp)
      obtain ⟨p0, p1, p2, p3, p4, p5⟩ := hA
      obtain ⟨q0, q1, q2, q3, q4, q5⟩ := hB
      go_wp2_with fail
      go_quiet (fail)
      have hb2 := hbl.trans (below_draws _ _ nq)
      generalize wr.drewN nq = w2 at hb2 ⊢
      clear p0 p1 p2 p3 p4 p5 q0 q1 q2 q3 q4 q5 hra hrb kne
      go_wp2_with fail
      refine ⟨⟨j + 1, by omega, by go_num, hb2⟩, by simp [intOf]; omega⟩
    · obtain rfl : j = ln := by omega
      go_wp2_with fail
      go_ret
      exact ⟨rfl, hbl⟩

end Go.Proofs.Ytdpghocgljnobaa
