/- The walks of dec's power (a loop) and checkBoth. -/
import Derived.Test.YtdiaijdobglaaaaGreatDoorDecWalkA
import Derived.LoopTactic
namespace Go.Proofs.YtdiaijdobglaaaaGreatDoor
open Go.RowKit Dec

end Go.Proofs.YtdiaijdobglaaaaGreatDoor

