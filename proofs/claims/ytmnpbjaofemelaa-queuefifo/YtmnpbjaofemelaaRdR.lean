/-
  The least count, whether a round is full, who may send, which place is ahead, one's position: what the document says.
  Counts are such as a uint32 holds.
-/
import Derived.Test.YtmnpbjaofemelaaRdD
import Derived.Test.YtmnpbjaofemelaaLsR
import Derived.Test.YtmnpbjaofemelaaRbB
import Derived.Test.YtmnpbjaofemelaaRdE
namespace Go.Proofs.Ytmnpbjaofemelaa
set_option maxRecDepth 10000
open Go.RowKit Go.Sort

end Go.Proofs.Ytmnpbjaofemelaa
