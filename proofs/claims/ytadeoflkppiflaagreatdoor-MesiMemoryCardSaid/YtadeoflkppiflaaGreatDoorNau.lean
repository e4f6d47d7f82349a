/- What stage 9's statements share. No condition. -/
import Derived.Test.YtadeoflkppiflaaGreatDoorNar
import Derived.Test.YtadeoflkppiflaaGreatDoorNas
import Derived.Test.YtadeoflkppiflaaGreatDoorNat
section
namespace Go.Proofs.YtadeoflkppiflaaGreatDoor
open Go.RowKit
set_option linter.unusedVariables false
set_option maxHeartbeats 1000000

theorem pack_here : True := trivial
end Go.Proofs.YtadeoflkppiflaaGreatDoor
end
