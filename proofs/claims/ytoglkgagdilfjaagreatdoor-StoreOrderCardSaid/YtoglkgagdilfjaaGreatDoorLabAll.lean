/- What stage 6 wants of labels. -/
import Derived.Test.YtoglkgagdilfjaaGreatDoorLRefSet
import Derived.Test.YtoglkgagdilfjaaGreatDoorLKey
import Derived.Test.YtoglkgagdilfjaaGreatDoorLCmp
import Derived.Test.YtoglkgagdilfjaaGreatDoorLRefRight
import Derived.Test.YtoglkgagdilfjaaGreatDoorLParts
import Derived.Test.YtoglkgagdilfjaaGreatDoorLKeyMath
import Derived.Test.YtoglkgagdilfjaaGreatDoorGr
namespace Go.Proofs.YtoglkgagdilfjaaGreatDoor
theorem lab_all : True := trivial
end Go.Proofs.YtoglkgagdilfjaaGreatDoor
