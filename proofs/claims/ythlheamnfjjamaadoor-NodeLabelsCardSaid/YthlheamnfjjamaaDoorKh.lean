/- The document's Encode. -/
import Derived.Test.YthlheamnfjjamaaDoorKg
namespace Go.Proofs.YthlheamnfjjamaaDoor
open Go.RowKit
attribute [local irreducible] beZ valN
attribute [local go_sem ↓] Go.wp_at_zero Go.wp_at_succ

end Go.Proofs.YthlheamnfjjamaaDoor
