/- The document's Made. -/
import Derived.Test.YtcfilepilgjlaaaDoorEh
namespace Go.Proofs.YtcfilepilgjlaaaDoor
open Go.RowKit

theorem tN_drop (f : Nat → UInt8) (o k : Nat) (h : f (o + k) = 0) : tN f o (k + 1) = tN f o k := by rw [tN, if_pos h]
theorem tN_stop (f : Nat → UInt8) (o k : Nat) (h : ¬ f (o + k) = 0) : tN f o (k + 1) = k + 1 := by rw [tN, if_neg h]
theorem mkInfo : (Tryd.prog.info? 56).map (·.size) = some 3 := by kernel_rfl
theorem u8_zero {a : UInt8} (h : ¬ a = 0) : ¬ ((a.toNat : Nat) : Int) = 0 := fun e => h (UInt8.toNat_inj.1 (by show a.toNat = 0; omega))
set_option maxRecDepth 100000 in
set_option maxHeartbeats 1600000 in
theorem Made_any (nm p : Int) (g c : Nat) (f : Nat → UInt8) (w : World) (hr : R8 w g 64 f) (hc : 64 ≤ c) :
    Calls Tryd.prog 19 #[.int .i64 nm, .int .i64 p, .slice (some ⟨g, 0, none⟩) 64 c] w fun e w' => e = .returned (.agg #[.string ⟨(kT nm p).toArray⟩, .string ⟨(tx f 0).toArray⟩, .bool (tx f 0).isEmpty]) ∧ Upd noBlock w w' := by
  have HK := Lib.hid (fun w => refKey_any nm p w)
  have HR := Lib.hid hr
  obtain ⟨qk, hqk⟩ : ∃ q : ByteArray, ⟨(kT nm p).toArray⟩ = q := ⟨_, rfl⟩
  rw [hqk] at HK ⊢
  obtain ⟨q, hq⟩ : ∃ q : ByteArray, ⟨(tx f 0).toArray⟩ = q := ⟨_, rfl⟩
  obtain ⟨bb, hbb⟩ : ∃ bb, (tx f 0).isEmpty = bb := ⟨_, rfl⟩
  rw [hq, hbb]
  have HQ := Lib.hid hq
  have HBB := Lib.hid hbb
  clear hq hbb
  obtain ⟨wa, hwa⟩ : ∃ W : World, W = w.alloc (.cells #[.string ⟨#[]⟩, .string ⟨#[]⟩, .bool false] 56) := ⟨_, rfl⟩
  have HA : Hid (wa.heap[w.heap.size]? = some (.cells #[.string ⟨#[]⟩, .string ⟨#[]⟩, .bool false] 56 (0, 0))) := by rw [hwa]; exact heap_alloc_new w _
  have HU : Hid (Upd noBlock w wa) := by rw [hwa]; exact (Upd.refl _ _).alloc _
  have HWA := Lib.hid hwa
  clear hr hqk hwa
  go_enter Tryd.func19, Tryd.ntmps19
  go_wp2
  rw [← HWA.out]
  go_loopw [7] (fun x wr => ∃ k : Nat, k ≤ 64 ∧ x = .int .i64 (k : Int) ∧ Hid (tN f 0 k = tN f 0 64) ∧ wa = wr) (fun x _ => (intOf x).toNat)
  case atStart => exact ⟨64, Nat.le_refl _, rfl, rfl, rfl⟩
  case round =>
    obtain ⟨k, hk, rfl, HT, rfl⟩ := hrel
    by_cases hs : 0 < k ∧ f (k - 1) = 0
    · obtain ⟨h0, hz⟩ := hs
      obtain ⟨m, rfl⟩ : ∃ m, k = m + 1 := ⟨k - 1, by omega⟩
      have cc := (HR.out.grow HU.out).cell m (by omega)
      have e1 : ((m + 1 : Nat) : Int) - 1 = (m : Int) := by omega
      rw [Nat.add_sub_cancel] at hz
      have HT2 : Hid (tN f 0 m = tN f 0 64) := by show _ = _; rw [← HT.out, tN_drop f 0 m (by rw [Nat.zero_add]; exact hz)]
      rw [hz] at cc
      clear HT hz
      go_wp2
      go_roundw
      case rel => exact ⟨m, by omega, by go_num, HT2, trivial⟩
      case measure => simp [intOf] <;> omega
    · have HE : Hid (tN f 0 64 = k) := by
        show _ = _
        rw [← HT.out]
        cases k with
        | zero => rfl
        | succ m => exact tN_stop f 0 m (fun e => hs ⟨by omega, by rw [Nat.zero_add] at e; exact e⟩)
      have hx : tx f 0 = bytesAt f 0 k := by unfold tx; rw [HE.out]
      have hb : (tx f 0).isEmpty = ((k : Int) == 0) := by
        rw [hx]
        cases k with
        | zero => rfl
        | succ m =>
          have : (((m + 1 : Nat) : Int) == 0) = false := beq_eq_false_iff_ne.2 (by omega)
          rw [this, bytesAt_snoc]; simp
      have HCV : Hid (∀ W, Upd noBlock wa W → (convert 37 9 (.slice (some ⟨g, 0, none⟩) k c)).run Tryd.prog W = .ok (.string ⟨(tx f 0).toArray⟩) W) := fun W hu => by
        rw [hx]
        exact (HR.out.grow (HU.out.trans hu)).text 0 k c (by omega) _ _ Tryd.underlying37 Tryd.underlying5 Tryd.underlying9
      rw [HQ.out] at HCV
      rw [HBB.out] at hb
      have hbb : ((k : Int) == 0) = bb := hb.symm
      obtain ⟨i0, hi0, _, hz1, _⟩ := info_parts byteInfoB
      have hsl : ∀ w', (Instr.sliceAt 37 (.slice (some ⟨g, 0, none⟩) 64 c) none (some (.int .i64 (k : Int))) none).run Tryd.prog w' = .ok (.slice (some ⟨g, 0, none⟩) k c) w' := fun w' => by
        have h := run_slice_lo1 w' 37 5 i0 Tryd.underlying37 hi0 (some ⟨g, 0, none⟩) 64 c k (by omega) hc
        rw [h, if_neg (by omega)]
        simp [Addr.add]
      have HKP : Hid (∀ W, Upd noBlock wa W → W.heap[w.heap.size]? = some (.cells #[.string ⟨#[]⟩, .string ⟨#[]⟩, .bool false] 56 (0, 0)) ∧ Upd noBlock w W) := fun W hu =>
        ⟨(hu.block _ (lt_of_block HA.out) (fun h => h)).trans HA.out, HU.out.trans hu⟩
      have hcv0 := HCV.out wa (Upd.refl _ _)
      have hcv1 := HCV.out wa.drew (Upd.refl _ _).drew
      have hcase : ¬ 0 < k ∨ (0 < k ∧ ∃ (m : Nat) (z : Int), (k : Int) - 1 = (m : Int) ∧ m < 64 ∧ wa.cell? ⟨g, m, none⟩ = some (.int .u8 z) ∧ ¬ z = 0) := by
        by_cases h0 : 0 < k
        · exact .inr ⟨h0, k - 1, _, by omega, by omega, (HR.out.grow HU.out).cell (k - 1) (by omega), u8_zero (fun e => hs ⟨h0, e⟩)⟩
        · exact .inl h0
      clear HT hx hb hs hi0 hz1
      rcases hcase with h0 | ⟨h0, m, z, e1, hm, cc, hne⟩
      all_goals
        go_wp2
        go_region_with (go_at_call 25; refine (HK.out _).mono ?_; rintro e w1 ⟨rfl, u1⟩; have u2 : Upd noBlock wa w1 := (by first | exact u1 | exact (Upd.refl noBlock wa).drew.trans u1); have hcv2 := HCV.out w1 u2; (obtain ⟨hb2, U2⟩ := HKP.out w1 u2); have HB2 := Lib.hid hb2; have HU2 := Lib.hid U2; have ff2 := free_of hb2; have d0 := cell_of hb2 0; have d1 := cell_of hb2 1; have d2 := cell_of hb2 2; clear hb2 U2 u1 u2)
        all_goals
          go_wp2
          refine bodyPost_ret_by (results_cell_row rfl _ _ w.heap.size 56 #[.string qk, .string q, .bool bb] (0, 0) _ rfl ?_ Tryd.underlying56 rfl mkInfo) rfl ⟨rfl, ?_⟩
          · exact block_set (block_set (block_set HB2.out _) _) _
          · exact ((HU2.out.setCell (.inr (Nat.le_refl _)) _).setCell (.inr (Nat.le_refl _)) _).setCell (.inr (Nat.le_refl _)) _
end Go.Proofs.YtcfilepilgjlaaaDoor
