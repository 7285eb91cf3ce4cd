/- Walks: the sums; what all laws of layer 3 begin with; CrcSums. -/
import Derived.Test.YtgnhapdccmbcjaaDoorCd
namespace Go.Proofs.YtgnhapdccmbcjaaDoor
open Go.RowKit Cm
attribute [local irreducible] Cm.shs Cm.nxt Cm.reg Cm.ext

set_option maxRecDepth 20000 in
set_option maxHeartbeats 400000 in
theorem refSum_any (s : ByteArray) (w : World) (hs : s.size ≤ maxLen) :
    Calls Tryd.prog 9 #[.string s] w fun e w' => e = .returned (.int .u32 (ext 0 s.data.toList : Nat)) ∧ w = w' := by
  have H := fun w => refExt_any 0 s w (by decide) hs
  go_enter Tryd.func9, Tryd.ntmps9
  go_wp2_with fail
  refine (H _).mono ?_
  rintro e w1 ⟨rfl, rfl⟩
  clear H
  go_wp2_with fail
  go_ret
  exact ⟨rfl, rfl⟩
set_option maxRecDepth 20000 in
set_option maxHeartbeats 400000 in
theorem sum_any (s : ByteArray) (w : World) (hs : s.size ≤ maxLen) (hT : Tab w) :
    Calls Tryd.prog 8 #[.string s] w fun e w' => e = .returned (.int .u32 (ext 0 s.data.toList : Nat)) ∧ w = w' := by
  have H := ext_any 0 s w (by decide) hs hT
  go_enter Tryd.func8, Tryd.ntmps8
  go_wp2_with fail
  refine H.mono ?_
  rintro e w1 ⟨rfl, rfl⟩
  clear H hT
  go_wp2_with fail
  go_ret
  exact ⟨rfl, rfl⟩
set_option maxRecDepth 20000 in
set_option maxHeartbeats 400000 in
theorem speaks3_any (w : World) (hT : Tab w) :
    Calls Tryd.prog 7 #[] w fun e w' => e = .returned (.bool true) ∧ w = w' := by
  have H := sum_any ⟨#[49, 50, 51, 52, 53, 54, 55, 56, 57]⟩ w (by decide) hT
  have e9 : ext 0 (ByteArray.mk #[49, 50, 51, 52, 53, 54, 55, 56, 57]).data.toList = 3421780262 := digits
  rw [e9] at H
  clear hT
  go_enter Tryd.func7, Tryd.ntmps7
  go_wp2_with fail
  refine H.mono ?_
  rintro e w1 ⟨rfl, rfl⟩
  clear H
  go_wp2_with fail
  go_ret
  exact ⟨rfl, rfl⟩

theorem u32_of_wf {n : Int} (h : (Lit.int .u32 n).wf = true) : 0 ≤ n ∧ n ≤ 4294967295 := by
  simp [Lit.wf, IntKind.min, IntKind.max, IntKind.signed, IntKind.bits] at h
  omega

set_option maxRecDepth 20000 in
set_option maxHeartbeats 800000 in
theorem crcSums_walk (s t : ByteArray) (c : Int) (w : World) (hs : s.size ≤ 140737488351232) (ht : t.size ≤ 140737488351232) (hc : (Lit.int .u32 c).wf = true) (hT : Tab w) :
    Calls Tryd.prog 3 #[.string s, .string t, .int .u32 c] w fun e w' => e = .returned (.bool true) ∧ Below w.heap.size w w' := by
  obtain ⟨n, rfl, hn⟩ : ∃ n : Nat, c = (n : Int) ∧ n < 2 ^ 32 := by
    have := u32_of_wf hc
    exact ⟨c.toNat, by omega, by omega⟩
  have HT := Lib.hid hT
  have HS := Lib.hid hs
  have HU := Lib.hid ht
  have HN := Lib.hid hn
  have e1 : Hid (ext (ext 0 s.data.toList) t.data.toList = ext 0 (s ++ t).data.toList) := by
    show _ = _
    rw [ext_ext, ByteArray.data_append, Array.toList_append]
  have hsum : ¬ 9223372036854775807 < s.size + t.size := by omega
  have hm : Hid ((s ++ t).size ≤ maxLen) := by show (s ++ t).size ≤ maxLen; rw [ByteArray.size_append]; unfold maxLen; omega
  clear hT hs ht hn hc
  go_enter Tryd.func3, Tryd.ntmps3
  go_wp2_with fail
  refine (speaks3_any _ HT.out).mono ?_
  rintro e w1 ⟨rfl, rfl⟩
  go_wp2_with fail
  refine (sum_any s _ (by have := HS.out; unfold maxLen; omega) HT.out).mono ?_
  rintro e w1 ⟨rfl, rfl⟩
  go_wp2_with fail
  refine (refSum_any s _ (by have := HS.out; unfold maxLen; omega)).mono ?_
  rintro e w1 ⟨rfl, rfl⟩
  go_wp2_with fail
  refine (ext_any n s _ HN.out (by have := HS.out; unfold maxLen; omega) HT.out).mono ?_
  rintro e w1 ⟨rfl, rfl⟩
  go_wp2_with fail
  refine (refExt_any n s _ HN.out (by have := HS.out; unfold maxLen; omega)).mono ?_
  rintro e w1 ⟨rfl, rfl⟩
  go_wp2_with fail
  refine (sum_any s _ (by have := HS.out; unfold maxLen; omega) HT.out).mono ?_
  rintro e w1 ⟨rfl, rfl⟩
  go_wp2_with fail
  refine (ext_any _ t _ (ext0_lt _) (by have := HU.out; unfold maxLen; omega) HT.out).mono ?_
  rintro e w1 ⟨rfl, rfl⟩
  rw [e1.out]
  go_wp2_with fail
  refine (sum_any (s ++ t) _ hm.out HT.out).mono ?_
  rintro e w1 ⟨rfl, rfl⟩
  go_wp2_with fail
  go_ret
  exact ⟨rfl, Below.refl _ _⟩
end Go.Proofs.YtgnhapdccmbcjaaDoor
