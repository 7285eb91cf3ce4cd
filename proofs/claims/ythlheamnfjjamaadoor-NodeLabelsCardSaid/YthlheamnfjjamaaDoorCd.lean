/- From the row's condition to the table of half bytes. -/
import Derived.Test.YthlheamnfjjamaaDoorCa
import Derived.LaidMore
import Derived.Lay
import Derived.Lib.LaidTab
import Derived.Stop.Joined
namespace Go.Proofs.YthlheamnfjjamaaDoor
open Go.RowKit Cm

theorem of_laid {W : World} (h : laidMetH Tryd.prog [("chert/crc.halves", Rows.laid_chert_crc_halves)] W) : Tab W := by
  rw [MakeChecks.laidMetH_plain _ _ _ (by kernel_rfl)] at h
  have hT := Lib.tabIs_of_head (P := Tryd.prog) (W := W) (name := "chert/crc.halves") (k := .u32) (zs := tab.map fun n : Nat => (n : Int)) (rest := []) (g := 0) (t := 123) (e := 94) (n := 16)
    (by kernel_rfl) (by kernel_rfl) Tryd.underlying123 Tryd.underlying94 (by kernel_rfl) (by kernel_rfl) h
  intro i hi
  have := hT.cell (g := 0) (by kernel_rfl) i (by simpa [tab] using hi)
  rw [this]
  have e : (tab.map fun n : Nat => (n : Int)).getD i 0 = ((tab.getD i 0 : Nat) : Int) := by
    rw [List.getD_eq_getElem?_getD, List.getD_eq_getElem?_getD, List.getElem?_map]
    cases tab[i]? <;> rfl
  rw [e]
end Go.Proofs.YthlheamnfjjamaaDoor
