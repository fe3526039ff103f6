/- What stage 6 wants of labels. -/
import Derived.Test.YtoooaipbkkiefaaGreatDoorLRefSet
import Derived.Test.YtoooaipbkkiefaaGreatDoorLKey
import Derived.Test.YtoooaipbkkiefaaGreatDoorLCmp
import Derived.Test.YtoooaipbkkiefaaGreatDoorLRefRight
import Derived.Test.YtoooaipbkkiefaaGreatDoorLParts
import Derived.Test.YtoooaipbkkiefaaGreatDoorLKeyMath
import Derived.Test.YtoooaipbkkiefaaGreatDoorGr
namespace Go.Proofs.YtoooaipbkkiefaaGreatDoor
theorem lab_all : True := trivial
end Go.Proofs.YtoooaipbkkiefaaGreatDoor
