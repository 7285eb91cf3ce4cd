/- The laws' walks, with what the world's shape gives. -/
import Derived.Test.YtdbjinakbbiimaaDoorYi
import Derived.Shelf.Vars
namespace Go.Proofs.YtdbjinakbbiimaaDoor
open Go.RowKit

theorem ml_of {W : World} (h : W.ShapedOpen Tryd.prog) : Ml W :=
  Go.Proofs.cell_of_shapedOpen_int (zero := #[.int .i64 0]) (t := 3) h (of_decide_eq_true (by kernel_rfl)) (by kernel_rfl) rfl (by kernel_rfl) (by kernel_rfl) Tryd.underlying3
theorem pathSplits_walk (p : ByteArray) (w : World) (hp : p.size ≤ 140737488351232) (hm : Ml w) :
    Calls Tryd.prog 3 #[.string p] w fun e w' => e = .returned (.bool true) ∧ Below w.heap.size w w' :=
  (pathSplits_any p w (by unfold maxLen; omega) hm).mono fun _ _ ⟨h, hu⟩ => ⟨h, hu.below (fun _ _ h => h)⟩
end Go.Proofs.YtdbjinakbbiimaaDoor
