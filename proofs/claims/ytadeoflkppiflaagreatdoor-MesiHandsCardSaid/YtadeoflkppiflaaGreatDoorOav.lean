/- What stage 9's last statements share. No condition. -/
import Derived.Test.YtadeoflkppiflaaGreatDoorOar
import Derived.Test.YtadeoflkppiflaaGreatDoorOat
import Derived.Test.YtadeoflkppiflaaGreatDoorOau
section
namespace Go.Proofs.YtadeoflkppiflaaGreatDoor
open Go.RowKit
set_option linter.unusedVariables false
set_option maxHeartbeats 1000000

theorem pack_here : True := trivial
end Go.Proofs.YtadeoflkppiflaaGreatDoor
end
