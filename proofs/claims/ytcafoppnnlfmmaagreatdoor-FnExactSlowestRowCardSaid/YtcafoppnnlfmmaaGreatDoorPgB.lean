/- The pushes of a row, as a row of one's own. -/
import Derived.Test.YtcafoppnnlfmmaaGreatDoorTm
namespace Go.Proofs.YtcafoppnnlfmmaaGreatDoor
open Go.ChangeShapes Go.WideShapes Go.ChangeAt Go.RowKit Go.Joins Go.Deep
set_option linter.unusedVariables false
set_option linter.unusedSimpArgs false

end Go.Proofs.YtcafoppnnlfmmaaGreatDoor
