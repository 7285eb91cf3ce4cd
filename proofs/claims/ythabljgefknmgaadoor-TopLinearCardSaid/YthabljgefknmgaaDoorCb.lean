/- Walks: the sums; what all laws of layer 3 begin with; CrcSums. -/
import Derived.Test.YthabljgefknmgaaDoorCd
namespace Go.Proofs.YthabljgefknmgaaDoor
open Go.RowKit Cm
attribute [local irreducible] Cm.shs Cm.nxt Cm.reg Cm.ext

set_option maxRecDepth 20000 in
set_option maxHeartbeats 400000 in
theorem sum_any (s : ByteArray) (w : World) (hs : s.size ≤ maxLen) (hT : Tab w) :
    Calls Tryd.prog 4 #[.string s] w fun e w' => e = .returned (.int .u32 (ext 0 s.data.toList : Nat)) ∧ w = w' := by
  have H := ext_any 0 s w (by decide) hs hT
  go_enter Tryd.func4, Tryd.ntmps4
  go_wp2_with fail
  refine H.mono ?_
  rintro e w1 ⟨rfl, rfl⟩
  clear H hT
  go_wp2_with fail
  go_ret
  exact ⟨rfl, rfl⟩
theorem u32_of_wf {n : Int} (h : (Lit.int .u32 n).wf = true) : 0 ≤ n ∧ n ≤ 4294967295 := by
  simp [Lit.wf, IntKind.min, IntKind.max, IntKind.signed, IntKind.bits] at h
  omega

end Go.Proofs.YthabljgefknmgaaDoor
