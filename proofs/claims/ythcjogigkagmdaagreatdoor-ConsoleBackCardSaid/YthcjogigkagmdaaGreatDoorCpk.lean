/- ConsoleBack's walk, as its text wants it. -/
import Derived.Test.YthcjogigkagmdaaGreatDoorCoz
import Derived.Test.YthcjogigkagmdaaGreatDoorCpj
namespace Go.Proofs.YthcjogigkagmdaaGreatDoor
open Go.RowKit

theorem consoleBack_walk (x : ByteArray) (w : World) (hx : x.size ≤ 140737488351232) (hg : Gl w) :
    Calls Tryz.prog 5 #[.string x] w fun e w' => e = .returned (.bool true) ∧ Below w.heap.size w w' := by
  by_cases hC : (Con.parseL x.data.toList).2.1 = 0
  · exact (back_good x w hg hx hC).mono fun _ _ ⟨h, hu⟩ => ⟨h, hu.below (fun _ _ h => h)⟩
  · exact (back_bad x w hg hx hC).mono fun _ _ ⟨h, hu⟩ => ⟨h, hu.below (fun _ _ h => h)⟩
end Go.Proofs.YthcjogigkagmdaaGreatDoor
