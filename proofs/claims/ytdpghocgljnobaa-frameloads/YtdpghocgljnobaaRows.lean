/-
  No cell of these rows narrows 'for every input' (looked for: loops, veiled, ifaces, maps, wideKeys, modest, calm, conditions, laid).
  DERIVED. THE GIVEN ROWS OF THIS SEAT. 5 by the template 'for every input the law returns true; each argument reads behind the call as it read before'; 0 by the template 'total and deterministic' (their statements: YtdpghocgljnobaaTotals.lean).
  GIVEN WITH THE SEED: the statements are not yours to turn. If you find one false, say at which input.
  Laid BY PROGRAM, IN A SANDBOX (cutbox-rows.mjs): the forced cells as the released guide's own fill.sh prints them over the translation 42a2cba1cc0fa1ae… (all of the seat's roots in one cut). By AI agents, Wed Nov 11 2026. No macro, syntax, notation, axiom, sorry.
-/
import Derived.Test.YtdpghocgljnobaaChecked
import GoSem.Claim
import GoSem.ClaimJoined
import GoSem.ClaimMapViews
import Derived.JoinedTies
import Derived.KernelRfl
namespace Go.Proofs.Ytdpghocgljnobaa
/- THE CELL 'sum', in the pinned program and in every row, IS THE sha256 OF THE DUMP (.gsa) THAT YtdpghocgljnobaaProg.lean LOADS. Nothing in Lean hashes anything: it is a label: what it is worth is what the hold of that sum in a sandbox is worth. -/
noncomputable def Try.pinned : Pinned := { name := "ytdpghocgljnobaa", sum := "42a2cba1cc0fa1aeeffdbc53bb8c2e02e07c95a88b525280452c819d16b37482", checked := Try.checked }
namespace Rows
def none {H : Type} : Left H := { results := [], args := [] }

/-- 'congresslaw04.FrameEncodes': WHATEVER THE INPUT: true; the input reads as it did. -/
def frameEncodesSpec : ChangeSpec := { name := "frameEncodes", fn := fun _ => fun
  | [d1, d2] => { results := [.lit (.bool true)], args := [d1, d2] }
  | _ => none }
def frameEncodesRow : OpenClaim := { program := "ytdpghocgljnobaa", sum := "42a2cba1cc0fa1aeeffdbc53bb8c2e02e07c95a88b525280452c819d16b37482", func := "congress/congresslaw04.FrameEncodes", spec := "frameEncodes", inPlace := ["internal/abi.NoEscape"], apart := false }
def FrameEncodesSaid : Prop := frameEncodesRow.holds Try.pinned (OpenSpec.ofChange frameEncodesSpec)

/-- ITS FALSE NEIGHBOUR: 'it returns false'. Refute it at one input. -/
def frameEncodesWrong : ChangeSpec := { name := "frameEncodes", fn := fun _ => fun
  | [d1, d2] => { results := [.lit (.bool false)], args := [d1, d2] }
  | _ => none }
def FrameEncodesWrongFalsely : Prop := frameEncodesRow.holds Try.pinned (OpenSpec.ofChange frameEncodesWrong)

/-- 'congresslaw04.FrameLanes': WHATEVER THE INPUT: true; the input reads as it did. -/
def frameLanesSpec : ChangeSpec := { name := "frameLanes", fn := fun _ => fun
  | [d1, d2, d3] => { results := [.lit (.bool true)], args := [d1, d2, d3] }
  | _ => none }
def frameLanesRow : OpenClaim := { program := "ytdpghocgljnobaa", sum := "42a2cba1cc0fa1aeeffdbc53bb8c2e02e07c95a88b525280452c819d16b37482", func := "congress/congresslaw04.FrameLanes", spec := "frameLanes", inPlace := ["internal/abi.NoEscape"], apart := false }
def FrameLanesSaid : Prop := frameLanesRow.holds Try.pinned (OpenSpec.ofChange frameLanesSpec)

/-- ITS FALSE NEIGHBOUR: 'it returns false'. Refute it at one input. -/
def frameLanesWrong : ChangeSpec := { name := "frameLanes", fn := fun _ => fun
  | [d1, d2, d3] => { results := [.lit (.bool false)], args := [d1, d2, d3] }
  | _ => none }
def FrameLanesWrongFalsely : Prop := frameLanesRow.holds Try.pinned (OpenSpec.ofChange frameLanesWrong)

/-- 'congresslaw04.FrameBack': WHATEVER THE INPUT: true; the input reads as it did. -/
def frameBackSpec : ChangeSpec := { name := "frameBack", fn := fun _ => fun
  | [d1, d2] => { results := [.lit (.bool true)], args := [d1, d2] }
  | _ => none }
def frameBackRow : OpenClaim := { program := "ytdpghocgljnobaa", sum := "42a2cba1cc0fa1aeeffdbc53bb8c2e02e07c95a88b525280452c819d16b37482", func := "congress/congresslaw04.FrameBack", spec := "frameBack", inPlace := ["internal/abi.NoEscape"], apart := false }
def FrameBackSaid : Prop := frameBackRow.holds Try.pinned (OpenSpec.ofChange frameBackSpec)

/-- ITS FALSE NEIGHBOUR: 'it returns false'. Refute it at one input. -/
def frameBackWrong : ChangeSpec := { name := "frameBack", fn := fun _ => fun
  | [d1, d2] => { results := [.lit (.bool false)], args := [d1, d2] }
  | _ => none }
def FrameBackWrongFalsely : Prop := frameBackRow.holds Try.pinned (OpenSpec.ofChange frameBackWrong)

/-- 'congresslaw04.FrameApart': WHATEVER THE INPUT: true; the input reads as it did. -/
def frameApartSpec : ChangeSpec := { name := "frameApart", fn := fun _ => fun
  | [d1, d2, d3] => { results := [.lit (.bool true)], args := [d1, d2, d3] }
  | _ => none }
def frameApartRow : OpenClaim := { program := "ytdpghocgljnobaa", sum := "42a2cba1cc0fa1aeeffdbc53bb8c2e02e07c95a88b525280452c819d16b37482", func := "congress/congresslaw04.FrameApart", spec := "frameApart", inPlace := ["internal/abi.NoEscape"], apart := false }
def FrameApartSaid : Prop := frameApartRow.holds Try.pinned (OpenSpec.ofChange frameApartSpec)

/-- ITS FALSE NEIGHBOUR: 'it returns false'. Refute it at one input. -/
def frameApartWrong : ChangeSpec := { name := "frameApart", fn := fun _ => fun
  | [d1, d2, d3] => { results := [.lit (.bool false)], args := [d1, d2, d3] }
  | _ => none }
def FrameApartWrongFalsely : Prop := frameApartRow.holds Try.pinned (OpenSpec.ofChange frameApartWrong)

/-- 'congresslaw04.FrameLoads': WHATEVER THE INPUT: true; the input reads as it did. -/
def frameLoadsSpec : ChangeSpec := { name := "frameLoads", fn := fun _ => fun
  | [d1, d2, d3] => { results := [.lit (.bool true)], args := [d1, d2, d3] }
  | _ => none }
def frameLoadsRow : OpenClaim := { program := "ytdpghocgljnobaa", sum := "42a2cba1cc0fa1aeeffdbc53bb8c2e02e07c95a88b525280452c819d16b37482", func := "congress/congresslaw04.FrameLoads", spec := "frameLoads", inPlace := ["internal/abi.NoEscape"], apart := false }
def FrameLoadsSaid : Prop := frameLoadsRow.holds Try.pinned (OpenSpec.ofChange frameLoadsSpec)

/-- ITS FALSE NEIGHBOUR: 'it returns false'. Refute it at one input. -/
def frameLoadsWrong : ChangeSpec := { name := "frameLoads", fn := fun _ => fun
  | [d1, d2, d3] => { results := [.lit (.bool false)], args := [d1, d2, d3] }
  | _ => none }
def FrameLoadsWrongFalsely : Prop := frameLoadsRow.holds Try.pinned (OpenSpec.ofChange frameLoadsWrong)

/- THE SECOND FORM. 'bulk': how many values and letters a reading holds, each counted each time it is reached (what is shared counts as often as it is met; a slice's spare places count too). A statement '..UptoSaid' is the law's where the arguments, and the package variables that the reading takes, are together of bulk at most 1048576: NARROWER than '..Said'. Prove '..Said' where nothing that the law and all that it calls make is longer than what came in: it says more and counts as full. Else prove '..UptoSaid'. A law counts once. -/
mutual
def uptoBulk {H : Type} : DataW H → Nat
  | .lit (.string bytes) => bytes.length + 1
  | .lit _ => 1
  | .nil => 1
  | .ptr d => uptoBulk d + 1
  | .slice elems spare => uptoBulkAll elems + uptoBulkAll spare + 1
  | .agg parts => uptoBulkAll parts + 1
  | .iface _ d => uptoBulk d + 1
  | .map entries => uptoBulkEntries entries + 1
  | .held _ => 1
def uptoBulkAll {H : Type} : List (DataW H) → Nat
  | [] => 0
  | d :: r => uptoBulk d + uptoBulkAll r
def uptoBulkEntries {H : Type} : List (Lit × DataW H) → Nat
  | [] => 0
  | x :: r => uptoBulkEntry x + uptoBulkEntries r
def uptoBulkEntry {H : Type} : Lit × DataW H → Nat
  | (.string bytes, d) => bytes.length + uptoBulk d + 1
  | (_, d) => uptoBulk d + 1
 end
def uptoSmall : (H : Type) → List (DataW H) → Bool := fun _ ds => decide (uptoBulkAll ds ≤ 1048576)
def OpenSpec.upto (s : _root_.Go.ChangeSpec) : _root_.Go.OpenSpec := { _root_.Go.OpenSpec.ofChange s with cond := some uptoSmall }

/-- 'congresslaw04.FrameEncodes', WHERE WHAT IT READS IS OF BULK AT MOST 1048576: true; the input reads as it did. -/
def frameEncodesUptoRow : OpenClaim := { program := "ytdpghocgljnobaa", sum := "42a2cba1cc0fa1aeeffdbc53bb8c2e02e07c95a88b525280452c819d16b37482", func := "congress/congresslaw04.FrameEncodes", spec := "frameEncodes", inPlace := ["internal/abi.NoEscape"], apart := false, narrowed := true }
def FrameEncodesUptoSaid : Prop := frameEncodesUptoRow.holds Try.pinned (OpenSpec.upto frameEncodesSpec)

/-- 'congresslaw04.FrameLanes', WHERE WHAT IT READS IS OF BULK AT MOST 1048576: true; the input reads as it did. -/
def frameLanesUptoRow : OpenClaim := { program := "ytdpghocgljnobaa", sum := "42a2cba1cc0fa1aeeffdbc53bb8c2e02e07c95a88b525280452c819d16b37482", func := "congress/congresslaw04.FrameLanes", spec := "frameLanes", inPlace := ["internal/abi.NoEscape"], apart := false, narrowed := true }
def FrameLanesUptoSaid : Prop := frameLanesUptoRow.holds Try.pinned (OpenSpec.upto frameLanesSpec)

/-- 'congresslaw04.FrameBack', WHERE WHAT IT READS IS OF BULK AT MOST 1048576: true; the input reads as it did. -/
def frameBackUptoRow : OpenClaim := { program := "ytdpghocgljnobaa", sum := "42a2cba1cc0fa1aeeffdbc53bb8c2e02e07c95a88b525280452c819d16b37482", func := "congress/congresslaw04.FrameBack", spec := "frameBack", inPlace := ["internal/abi.NoEscape"], apart := false, narrowed := true }
def FrameBackUptoSaid : Prop := frameBackUptoRow.holds Try.pinned (OpenSpec.upto frameBackSpec)

/-- 'congresslaw04.FrameApart', WHERE WHAT IT READS IS OF BULK AT MOST 1048576: true; the input reads as it did. -/
def frameApartUptoRow : OpenClaim := { program := "ytdpghocgljnobaa", sum := "42a2cba1cc0fa1aeeffdbc53bb8c2e02e07c95a88b525280452c819d16b37482", func := "congress/congresslaw04.FrameApart", spec := "frameApart", inPlace := ["internal/abi.NoEscape"], apart := false, narrowed := true }
def FrameApartUptoSaid : Prop := frameApartUptoRow.holds Try.pinned (OpenSpec.upto frameApartSpec)

/-- 'congresslaw04.FrameLoads', WHERE WHAT IT READS IS OF BULK AT MOST 1048576: true; the input reads as it did. -/
def frameLoadsUptoRow : OpenClaim := { program := "ytdpghocgljnobaa", sum := "42a2cba1cc0fa1aeeffdbc53bb8c2e02e07c95a88b525280452c819d16b37482", func := "congress/congresslaw04.FrameLoads", spec := "frameLoads", inPlace := ["internal/abi.NoEscape"], apart := false, narrowed := true }
def FrameLoadsUptoSaid : Prop := frameLoadsUptoRow.holds Try.pinned (OpenSpec.upto frameLoadsSpec)

end Rows
end Go.Proofs.Ytdpghocgljnobaa
