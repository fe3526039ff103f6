/- What comes in, read. -/
import Derived.Test.YtnlfndhgdeapeaaGr
import Derived.Test.YtnlfndhgdeapeaaRows
import Derived.ChangeSame
import Derived.WideShapes
import Derived.ProofKit
import Derived.LaidMore
import Derived.LaidSub
import Derived.Lay
import Derived.OpenShut
import Derived.Lib.LaidTab
import Derived.Lib.SmallJoins
import Derived.Deep.Slices
import Derived.Deep.Strs
namespace Go.Proofs.Ytnlfndhgdeapeaa
open Go.RowKit
theorem gr_below {w w' : World} (h : Gr w w') : Below w.heap.size w w' := h.b
end Go.Proofs.Ytnlfndhgdeapeaa
