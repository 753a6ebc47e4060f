/- The ticks and the outputs of a row: the program. -/
import Derived.Test.YtcafoppnnlfmmaaGreatDoorPgB
import Derived.Test.YtcafoppnnlfmmaaGreatDoorIl
import Derived.Test.YtcafoppnnlfmmaaGreatDoorTb
namespace Go.Proofs.YtcafoppnnlfmmaaGreatDoor
open Go.ChangeShapes Go.WideShapes Go.ChangeAt Go.RowKit Go.Joins Go.Deep
set_option linter.unusedVariables false
set_option linter.unusedSimpArgs false

end Go.Proofs.YtcafoppnnlfmmaaGreatDoor
