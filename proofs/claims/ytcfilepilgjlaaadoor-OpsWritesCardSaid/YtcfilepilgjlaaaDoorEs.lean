/- OpsWrites' walk, with what opens arrays by value. -/
import Derived.Test.YtcfilepilgjlaaaDoorEl
import Derived.Test.YtcfilepilgjlaaaDoorAr
namespace Go.Proofs.YtcfilepilgjlaaaDoor
theorem opsWrites_gathered : True := trivial
end Go.Proofs.YtcfilepilgjlaaaDoor
