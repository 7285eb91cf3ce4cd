import Derived.Test.YtjcmfaadoealgaaGreatDoorQCa
import Derived.LaidMore
import Derived.Lay
import Derived.Lib.LaidTab
import Derived.Stop.Joined
/- From the row's condition to the table of half bytes. -/
namespace Go.Proofs.YtjcmfaadoealgaaGreatDoor
open Go.RowKit Cm

theorem of_laid {W : World} (h : laidMetH Tryz.prog [("chert/crc.halves", Rows.laid_chert_crc_halves)] W) : Tab W := by
  rw [MakeChecks.laidMetH_plain _ _ _ (by kernel_rfl)] at h
  have hT := Lib.tabIs_of_head (P := Tryz.prog) (W := W) (name := "chert/crc.halves") (k := .u32) (zs := tab.map fun n : Nat => (n : Int)) (rest := []) (g := 1) (t := 292) (e := 156) (n := 16)
    (by kernel_rfl) (by kernel_rfl) Tryz.underlying292 Tryz.underlying156 (by kernel_rfl) (by kernel_rfl) h
  intro i hi
  have := hT.cell (g := 1) (by kernel_rfl) i (by simpa [tab] using hi)
  rw [this]
  have e : (tab.map fun n : Nat => (n : Int)).getD i 0 = ((tab.getD i 0 : Nat) : Int) := by
    rw [List.getD_eq_getElem?_getD, List.getD_eq_getElem?_getD, List.getElem?_map]
    cases tab[i]? <;> rfl
  rw [e]
end Go.Proofs.YtjcmfaadoealgaaGreatDoor

/- Walks: the sums; what all laws of layer 3 begin with; CrcSums. -/
namespace Go.Proofs.YtjcmfaadoealgaaGreatDoor
open Go.RowKit Cm
attribute [local irreducible] Cm.shs Cm.nxt Cm.reg Cm.ext

set_option maxRecDepth 20000 in
set_option maxHeartbeats 400000 in
theorem sum_any (s : ByteArray) (w : World) (hs : s.size ≤ maxLen) (hT : Tab w) :
    Calls Tryz.prog 136 #[.string s] w fun e w' => e = .returned (.int .u32 (ext 0 s.data.toList : Nat)) ∧ w = w' := by
  have H := ext_any 0 s w (by decide) hs hT
  go_enter Tryz.func136, Tryz.ntmps136
  go_wp2_with fail
  refine H.mono ?_
  rintro e w1 ⟨rfl, rfl⟩
  clear H hT
  go_wp2_with fail
  go_ret
  exact ⟨rfl, rfl⟩
end Go.Proofs.YtjcmfaadoealgaaGreatDoor
