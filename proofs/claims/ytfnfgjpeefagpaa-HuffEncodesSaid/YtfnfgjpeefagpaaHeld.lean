/- Nothing that stood has changed: under a name. No condition. -/
import Derived.Test.YtfnfgjpeefagpaaProg
import Derived.Below
namespace Go.Proofs.Ytfnfgjpeefagpaa
open Go Go.RowKit

/-- Nothing that stood in world w has changed. -/
def Held (w w' : World) : Prop := Below w.heap.size w w'
end Go.Proofs.Ytfnfgjpeefagpaa
