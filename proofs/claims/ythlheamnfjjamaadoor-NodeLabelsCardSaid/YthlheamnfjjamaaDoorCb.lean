/- Walks: the sums; what all laws of layer 3 begin with; CrcSums. -/
import Derived.Test.YthlheamnfjjamaaDoorCd
namespace Go.Proofs.YthlheamnfjjamaaDoor
open Go.RowKit Cm
attribute [local irreducible] Cm.shs Cm.nxt Cm.reg Cm.ext

set_option maxRecDepth 20000 in
set_option maxHeartbeats 400000 in
theorem refSum_any (s : ByteArray) (w : World) (hs : s.size ≤ maxLen) :
    Calls Tryd.prog 50 #[.string s] w fun e w' => e = .returned (.int .u32 (ext 0 s.data.toList : Nat)) ∧ w = w' := by
  have H := fun w => refExt_any 0 s w (by decide) hs
  go_enter Tryd.func50, Tryd.ntmps50
  go_wp2_with fail
  refine (H _).mono ?_
  rintro e w1 ⟨rfl, rfl⟩
  clear H
  go_wp2_with fail
  go_ret
  exact ⟨rfl, rfl⟩
set_option maxRecDepth 20000 in
set_option maxHeartbeats 400000 in
theorem sum_any (s : ByteArray) (w : World) (hs : s.size ≤ maxLen) (hT : Tab w) :
    Calls Tryd.prog 73 #[.string s] w fun e w' => e = .returned (.int .u32 (ext 0 s.data.toList : Nat)) ∧ w = w' := by
  have H := ext_any 0 s w (by decide) hs hT
  go_enter Tryd.func73, Tryd.ntmps73
  go_wp2_with fail
  refine H.mono ?_
  rintro e w1 ⟨rfl, rfl⟩
  clear H hT
  go_wp2_with fail
  go_ret
  exact ⟨rfl, rfl⟩
theorem u32_of_wf {n : Int} (h : (Lit.int .u32 n).wf = true) : 0 ≤ n ∧ n ≤ 4294967295 := by
  simp [Lit.wf, IntKind.min, IntKind.max, IntKind.signed, IntKind.bits] at h
  omega

end Go.Proofs.YthlheamnfjjamaaDoor
