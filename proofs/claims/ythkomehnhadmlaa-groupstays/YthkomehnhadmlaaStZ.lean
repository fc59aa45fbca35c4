/-
  The law GroupStays, where a table that may not be: it returns true.
  The table and the entry are such.
-/
import Derived.Test.YthkomehnhadmlaaStM
import Derived.Test.YthkomehnhadmlaaGrF
import Derived.Test.YthkomehnhadmlaaGrR
import Derived.WalkKit
import Derived.ProofKit
namespace Go.Proofs.Ythkomehnhadmlaa
open Go.Sort Go.ChangeShapes Go.WideShapes Go.ChangeAt Go.RowKit
set_option linter.unusedVariables false
set_option linter.unusedSimpArgs false
set_option maxRecDepth 10000

set_option maxHeartbeats 8000000 in
theorem walk0 (la : Option Addr) (L : List Mr) (lc : Nat) (lz : L.length * 24 ≤ 140737488351232) (lk : L.length ≤ lc) (lm : lc ≤ maxLen) (ls : ∀ x ∈ L, x.fit) (e : En) (d : Int) (hm : mayMB L = false) (w : World) (hL : Li Mr.vals 0 la L w) :
    Calls Try.prog 4 #[.slice la L.length lc, .agg e.arr, .int .i64 d] w fun e w' => e = .returned (.bool true) ∧ Below w.heap.size w w' := by
  have b0 := blk_new w e.arr 25
  have hB := below_box w (.cells e.arr 25)
  have pM := gmay_ok L la lc (by omega)
  rw [hm] at pM
  obtain ⟨n, hn⟩ : ∃ n, Hid (L.length = n) := ⟨_, rfl⟩
  rw [hn.out] at pM ⊢
  go_enter Try.func4, Try.ntmps4
  go_upto_region 1 with fail
  try simp only [Act.put]
  generalize hW : w.alloc (Obj.cells e.arr 25) = W at b0 hB ⊢
  clear hW
  go_wp2_with fail
  refine (fixed_ok _).mono ?_
  rintro r w1 ⟨rfl, hb⟩
  replace b0 := b0.below hb
  replace hB := below_next hB hb
  clear hb 
  go_wp2_with fail
  refine (pM _ (hL.below hB)).mono ?_
  rintro r w2 ⟨rfl, hb⟩
  replace b0 := b0.below hb
  replace hB := below_next hB hb
  clear hb pM
  go_wp2_with fail
  refine (fixed_ok _).mono ?_
  rintro r w3 ⟨rfl, hb⟩
  replace hB := below_next hB hb
  clear hb b0
  go_wp2_with fail
  go_ret
  exact ⟨rfl, hB⟩

end Go.Proofs.Ythkomehnhadmlaa
