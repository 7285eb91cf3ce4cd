/- The walks of console's laws, as their texts want them. -/
import Derived.Test.YthcjogigkagmdaaGreatDoorCoz
namespace Go.Proofs.YthcjogigkagmdaaGreatDoor
open Go.RowKit

theorem consoleLines_walk (x : ByteArray) (n : Int) (w : World) (hx : x.size ≤ 140737488351232) (hn : (Lit.int .i64 n).wf = true) (hg : Gl w) :
    Calls Tryz.prog 7 #[.string x, .int .i64 n] w fun e w' => e = .returned (.bool true) ∧ Below w.heap.size w w' :=
  (lines_any x n w hg hx hn).mono fun _ _ ⟨h, hu⟩ => ⟨h, hu.below (fun _ _ h => h)⟩
end Go.Proofs.YthcjogigkagmdaaGreatDoor
