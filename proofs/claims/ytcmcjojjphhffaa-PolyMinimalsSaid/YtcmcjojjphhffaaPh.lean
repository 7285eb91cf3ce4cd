/- The laws of layer 2: what they all begin with. -/
import Derived.Test.YtcmcjojjphhffaaPg
namespace Go.Proofs.Ytcmcjojjphhffaa
open Go.RowKit Pm

theorem exps3 : exps 3 = [1, 0] := by
  have h1 := exps_top 3 1 (by decide) (by decide) (by omega)
  have h2 := exps_top 1 0 (by decide) (by decide) (by omega)
  have e1 : 3 ^^^ 2 ^ 1 = 1 := by decide
  have e2 : 1 ^^^ 2 ^ 0 = 0 := by decide
  rw [e1] at h1
  rw [e2, exps_zero] at h2
  rw [h1, h2]; rfl
theorem exps5 : exps 5 = [2, 0] := by
  have h1 := exps_top 5 2 (by decide) (by decide) (by omega)
  have h2 := exps_top 1 0 (by decide) (by decide) (by omega)
  have e1 : 5 ^^^ 2 ^ 2 = 1 := by decide
  have e2 : 1 ^^^ 2 ^ 0 = 0 := by decide
  rw [e1] at h1
  rw [e2, exps_zero] at h2
  rw [h1, h2]; rfl
theorem gat10 : gat [1, 0] = 3 := by decide
theorem pmul33 : pmul 3 3 = 5 := by
  unfold pmul
  rw [exps3]; decide

/-- a new list of two -/
theorem ints2 (w : World) (x y : Int) : Ints (w.alloc (.cells #[.int .i64 x, .int .i64 y] 3)) (w.heap.size + 1) (some ⟨w.heap.size, 0, none⟩) 2 [x, y] :=
  ⟨rfl, fun _ => ⟨w.heap.size, 0, rfl, by omega, fun i hi => by
    rw [cell_of (heap_alloc_new w _)]
    have : i = 0 ∨ i = 1 := by omega
    rcases this with rfl | rfl <;> rfl⟩⟩

set_option maxRecDepth 20000 in
set_option maxHeartbeats 800000 in
theorem speaks2_any (w : World) :
    Calls Try.prog 9 #[] w fun e w' => e = .returned (.bool true) ∧ Upd noBlock w w' := by
  have hnew : ∀ (w : World), Upd noBlock w (w.alloc (.cells #[.int .i64 1, .int .i64 0] 3)) := fun w => (Upd.refl noBlock w).alloc _
  have HN := Lib.hid hnew
  clear hnew
  go_enter Try.func9, Try.ntmps9
  go_wp2_with fail
  refine (of_any _ 2 2 (w.heap.size + 1) [1, 0] _ (ints2 w 1 0) (by simp) (by unfold maxLen; omega)).mono ?_
  rintro e w1 ⟨v1, rfl, hv1, hu1⟩
  rw [gat10] at hv1
  have HU1 := Lib.hid ((HN.out w).trans hu1)
  have h1 := hv1.1
  rw [exps3] at h1
  obtain ⟨p1, c1, rfl, hi1, hm1, hb1⟩ := own_ints h1
  have hi1' := hi1.grow (HN.out w1) (Nat.le_refl _)
  clear hu1 hv1 h1 hb1 hi1
  go_wp2_with fail
  refine (of_any _ 2 2 (w1.heap.size + 1) [1, 0] _ (ints2 w1 1 0) (by simp) (by unfold maxLen; omega)).mono ?_
  rintro e w2 ⟨v2, rfl, hv2, hu2⟩
  rw [gat10] at hv2
  have HU2 := Lib.hid ((HU1.out.trans (HN.out w1)).trans hu2)
  have h2 := hv2.1
  rw [exps3] at h2
  obtain ⟨p2, c2, rfl, hi2, hm2, hb2⟩ := own_ints h2
  have hi1'' := hi1'.grow hu2 (by simp)
  have hs := hu2.size
  have HI1 := Lib.hid hi1''
  have HI2 := Lib.hid hi2
  clear hi1' hi1'' hi2 hb2 hv2 h2 hu2 HU1
  go_wp2_with fail
  refine (pmul_ok p1 _ c1 w1.heap.size [1, 0] p2 _ c2 w2.heap.size [1, 0] _ HI1.out (by simp at hs; omega) hm1 HI2.out (Nat.le_refl _) hm2 1 1 (by rw [gat10]; decide) (by rw [gat10]; decide) (by rw [gat10]; decide) (by rw [gat10]; decide) (by omega)).mono ?_
  rintro e w3 ⟨v3, rfl, hv3, hu3⟩
  rw [gat10, pmul33] at hv3
  have HU3 := Lib.hid (HU2.out.trans hu3)
  have h3 := hv3.1
  rw [exps5] at h3
  obtain ⟨p3, c3, rfl, hi3, hm3, hb3⟩ := own_ints h3
  have hu4 : Upd noBlock w3 (w3.alloc (.cells #[.int .i64 2, .int .i64 0] 3)) := (Upd.refl noBlock w3).alloc _
  have HI3 := Lib.hid (hi3.grow hu4 (Nat.le_refl _))
  have HU4 := Lib.hid (HU3.out.trans hu4)
  have HI4 := Lib.hid (ints2 w3 2 0)
  clear hi3 hb3 hv3 h3 hu3 hu4 HU2 HU3
  go_wp2_with fail
  refine (same_yes p3 2 c3 w3.heap.size (some ⟨w3.heap.size, 0, none⟩) 2 (w3.heap.size + 1) [2, 0] _ HI3.out HI4.out (by unfold maxLen; omega)).mono ?_
  rintro e w5 ⟨rfl, hu5⟩
  have HU5 := Lib.hid (HU4.out.trans hu5)
  clear hu5
  go_wp2_with fail
  go_ret
  exact ⟨rfl, HU5.out⟩
end Go.Proofs.Ytcmcjojjphhffaa
