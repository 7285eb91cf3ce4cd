/- The document's Unpack, whole; LzUnpacks. -/
import Derived.Test.YthlheamnfjjamaaDoorZf
namespace Go.Proofs.YthlheamnfjjamaaDoor
open Go.RowKit

theorem u8_gt_one (c : UInt8) (h1 : ¬ c = 1) (h0 : ¬ c = 0) : 1 < c.toNat := by
  have : ¬ c.toNat = 1 := fun h => h1 (by apply UInt8.toNat_inj.1; exact h)
  have : ¬ c.toNat = 0 := fun h => h0 (by apply UInt8.toNat_inj.1; exact h)
  omega
end Go.Proofs.YthlheamnfjjamaaDoor
