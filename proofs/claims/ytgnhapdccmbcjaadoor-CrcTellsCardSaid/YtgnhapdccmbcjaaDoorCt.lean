/- Walks: CrcTells. -/
import Derived.Test.YtgnhapdccmbcjaaDoorCk
import Derived.Test.YtgnhapdccmbcjaaDoorBr
import Derived.Test.YtgnhapdccmbcjaaDoorCh
namespace Go.Proofs.YtgnhapdccmbcjaaDoor
open Go.RowKit Cm
attribute [local irreducible] Cm.shs Cm.nxt Cm.reg Cm.ext

set_option maxRecDepth 20000 in
set_option maxHeartbeats 1600000 in
theorem crcTells_in (s : ByteArray) (A C : Nat) (w : World) (hs : s.size ≤ 140737488351232) (hA : A < s.size + 4) (hC : C < 2 ^ 32) (hT : Tab w) :
    Calls Tryd.prog 5 #[.string s, .int .i64 (A : Int), .int .u32 (C : Int)] w fun e w' => e = .returned (.bool true) ∧ Below w.heap.size w w' := by
  have HTU := Lib.hid (fun (x : World) (hx : Upd noBlock w x) => hT.upd hx)
  have HS := Lib.hid hs
  obtain ⟨n, hn⟩ : ∃ n, n = s.size + 4 := ⟨_, rfl⟩
  have hln : (sealed s.data.toList).length = n := by rw [sealed_length, hn]; rfl
  have hsz : (ByteArray.mk (sealed s.data.toList).toArray).size = n := hln
  have hAn : A < n := by omega
  have hn9 : n ≤ 140737488351236 := by omega
  have hA0 : decide ((A : Int) < 0) = false := decide_eq_false (by omega)
  have hA1 : decide (n ≤ A) = false := decide_eq_false (by omega)
  obtain ⟨CW, CC, hconv, hcu, hcb⟩ := conv_row (P := Tryd.prog) 9 31 5 Tryd.underlying9 Tryd.underlying31 Tryd.underlying5 ⟨(sealed s.data.toList).toArray⟩ (by rw [hsz]; unfold maxLen; omega)
  rw [hsz] at hconv hcb
  have HCB : Hid (∀ w, ByteRow (CW w) w.heap.size n 5 (chg (sealed s.data.toList) C A 0)) := fun w => by
    obtain ⟨g, cap, e, _, hr⟩ := (hcb.out w).row
    have e2 : w.heap.size = g := by simpa using congrArg (fun v => match v with | Value.slice (some a) _ _ => a.block | _ => 0) e
    rw [← e2] at hr
    have h3 : (ByteArray.mk (sealed s.data.toList).toArray).data.toList = sealed s.data.toList := rfl
    rw [h3, hln] at hr
    exact hr.congr (fun j _ => (chg_zero _ C A j).symm)
  have HSU : Hid (s.size ≤ 281474976710656) := by show _ ≤ _; omega
  have HLN := Lib.hid hln
  have HSZ := Lib.hid hsz
  have HC := Lib.hid hC
  clear hs hT hn hcb hln hsz hA hC
  go_enter Tryd.func5, Tryd.ntmps5
  go_wp2_with fail
  refine (speaks3_any _ (HTU.out _ (Upd.refl _ _))).mono ?_
  rintro e w1 ⟨rfl, rfl⟩
  go_wp2_with fail
  refine (seal_any s _ HSU.out (HTU.out _ (Upd.refl _ _))).mono ?_
  rintro e w1 ⟨rfl, hu⟩
  have HU1 := Lib.hid (hu.trans (hcu.out w1))
  have hsz1 := hu.size
  have HB1 := Lib.hid (HCB.out w1)
  clear hu
  go_wp2
  generalize CW w1 = v1 at *
  generalize CC w1 = cap1 at *
  generalize w1.heap.size = g1 at *
  clear hconv HCB hcu
  obtain ⟨M, hM⟩ : ∃ M, M = min 4 (n - A) := ⟨_, rfl⟩
  have hM4 : M ≤ 4 := by omega
  have hMn : A + M ≤ n := by omega
  have HM := Lib.hid hM
  clear hM
  go_loopw [8, 9, 10] (fun ch i _ wr => ∃ k : Nat, k ≤ M ∧ i = .int .i64 (k : Int) ∧ ch = .bool (chB C k) ∧ Hid (ByteRow wr g1 n 5 (chg (sealed s.data.toList) C A k)) ∧ Hid (Upd noBlock w wr)) (fun _ i _ _ => 4 - (intOf i).toNat)
  case atStart => exact ⟨0, Nat.zero_le _, rfl, rfl, HB1, HU1⟩
  case round =>
    clear HB1 HU1
    obtain ⟨k, hk, rfl, rfl, HB, HU⟩ := hrel
    by_cases h0 : k < M
    · have hk4 : k < 4 := by omega
      have hkn : (k : Int) < (n : Int) - (A : Int) := by have := HM.out; omega
      have hAk : A + k < n := by omega
      have c1 := HB.out.cell (A + k) hAk
      have f1 := HB.out.free (A + k) hAk
      rw [chg_at] at c1
      have HC1 : Hid (chB C (k + 1) = (chB C k || !(xb C k == 0))) := rfl
      have hx : bits .xor .u8 ((((sealed s.data.toList).getD (A + k) 0).toNat : Nat) : Int) ((xb C k : Nat) : Int) = ((((sealed s.data.toList).getD (A + k) 0).toNat ^^^ xb C k : Nat) : Int) := u8_xor_nat _ _ (u8_lt _) (xb_lt _ _)
      have HB2 := Lib.hid (HB.out.set (A + k) (((sealed s.data.toList).getD (A + k) 0).toNat ^^^ xb C k))
      have HB3 : Hid (ByteRow (wr.setCell ⟨g1, A + k, none⟩ (.int .u8 ((((sealed s.data.toList).getD (A + k) 0).toNat ^^^ xb C k : Nat) : Int))) g1 n 5 (chg (sealed s.data.toList) C A (k + 1))) := HB2.out.congr (fun j _ => (chg_succ _ C A k j).symm)
      have HU3 : Hid (Upd noBlock w (wr.setCell ⟨g1, A + k, none⟩ (.int .u8 ((((sealed s.data.toList).getD (A + k) 0).toNat ^^^ xb C k : Nat) : Int)))) := HU.out.setCell (.inr hsz1) _
      have hxv : (C : Int) / 2 ^ (8 * k) % 256 = ((xb C k : Nat) : Int) := by
        unfold xb
        rw [Int.natCast_emod, Int.natCast_ediv, show (256 : Nat) ^ k = 2 ^ (8 * k) by rw [Nat.pow_mul], Int.natCast_pow]; rfl
      clear HB2 HB HU
      generalize xb C k = x at *
      generalize ((sealed s.data.toList).getD (A + k) 0).toNat = y at *
      generalize y ^^^ x = z at *
      have hne : ((x : Int) != 0) = !(x == 0) := by
        cases x <;> simp <;> omega
      generalize (!(x == 0)) = xz at *
      cases hch : chB C k
      all_goals
        rw [hch] at HC1
        clear hch
        go_wp2
        go_roundw
        case rel => exact ⟨k + 1, by omega, by go_num, by rw [HC1.out]; simp, HB3, HU3⟩
        case measure => simp [intOf]; omega
    · obtain rfl : k = M := by omega
      have hcv := HB.out.text (P := Tryd.prog) (chL (sealed s.data.toList) C A k) (by rw [chL_length, HLN.out]) (fun j hj => chL_get _ C A k j hj) cap1 31 9 Tryd.underlying31 Tryd.underlying5 Tryd.underlying9
      have hle : A + k ≤ (sealed s.data.toList).length := by rw [HLN.out]; exact hMn
      have HSL : Hid ((ByteArray.mk (chL (sealed s.data.toList) C A k).toArray).size ≤ 281474976710656) := by
        show (chL (sealed s.data.toList) C A k).length ≤ _
        rw [chL_length, HLN.out]; omega
      have HHU := HU
      cases hch : chB C k
      · have HYES := Lib.hid (chL_yes s.data.toList C A k hle hch)
        have HOP := Lib.hid (fun w hT => open_yes s.data.toList ⟨(chL (sealed s.data.toList) C A k).toArray⟩ w HYES.out HSL.out hT)
        clear hch HB hle
        by_cases h4 : k = 4
        · have t1 : ¬ ((k : Int) < 4) := by omega
          clear h4
          go_wp2_with fail
          refine (HOP.out _ (HTU.out _ HU.out)).mono ?_
          rintro e w2 ⟨rfl, hu⟩
          have HU2 := Lib.hid (HU.out.trans hu)
          clear hu HOP
          go_wp2_with fail
          go_ret
          exact ⟨rfl, HU2.out.below (fun _ _ h => h)⟩
        · have t0 : (k : Int) < 4 := by omega
          have t1 : ¬ ((k : Int) < (n : Int) - (A : Int)) := by have := HM.out; omega
          clear h4
          go_wp2_with fail
          refine (HOP.out _ (HTU.out _ HU.out)).mono ?_
          rintro e w2 ⟨rfl, hu⟩
          have HU2 := Lib.hid (HU.out.trans hu)
          clear hu HOP
          go_wp2_with fail
          go_ret
          exact ⟨rfl, HU2.out.below (fun _ _ h => h)⟩
      · have HNO := Lib.hid (chL_no s.data.toList C A k hle hM4 hch)
        have HOP := Lib.hid (fun w hT => open_no ⟨(chL (sealed s.data.toList) C A k).toArray⟩ w HNO.out HSL.out hT)
        clear hch HB hle
        by_cases h4 : k = 4
        · have t1 : ¬ ((k : Int) < 4) := by omega
          clear h4
          go_wp2_with fail
          refine (HOP.out _ (HTU.out _ HU.out)).mono ?_
          rintro e w2 ⟨rfl, hu⟩
          have HU2 := Lib.hid (HU.out.trans hu)
          clear hu HOP
          go_wp2_with fail
          go_ret
          exact ⟨rfl, HU2.out.below (fun _ _ h => h)⟩
        · have t0 : (k : Int) < 4 := by omega
          have t1 : ¬ ((k : Int) < (n : Int) - (A : Int)) := by have := HM.out; omega
          clear h4
          go_wp2_with fail
          refine (HOP.out _ (HTU.out _ HU.out)).mono ?_
          rintro e w2 ⟨rfl, hu⟩
          have HU2 := Lib.hid (HU.out.trans hu)
          clear hu HOP
          go_wp2_with fail
          go_ret
          exact ⟨rfl, HU2.out.below (fun _ _ h => h)⟩
set_option maxRecDepth 20000 in
set_option maxHeartbeats 1600000 in
theorem crcTells_low (s : ByteArray) (at' : Int) (C : Nat) (w : World) (hs : s.size ≤ 140737488351232) (hA : at' < 0) (hC : C < 2 ^ 32) (hT : Tab w) :
    Calls Tryd.prog 5 #[.string s, .int .i64 at', .int .u32 (C : Int)] w fun e w' => e = .returned (.bool true) ∧ Below w.heap.size w w' := by
  have HTU := Lib.hid (fun (x : World) (hx : Upd noBlock w x) => hT.upd hx)
  have HS := Lib.hid hs
  obtain ⟨n, hn⟩ : ∃ n, n = s.size + 4 := ⟨_, rfl⟩
  have hln : (sealed s.data.toList).length = n := by rw [sealed_length, hn]; rfl
  have hsz : (ByteArray.mk (sealed s.data.toList).toArray).size = n := hln
  have hAn : 0 < n := by omega
  have hn4 : 4 ≤ n := by omega
  have hn9 : n ≤ 140737488351236 := by omega
  have hA0 : decide (at' < 0) = true := decide_eq_true hA
  obtain ⟨CW, CC, hconv, hcu, hcb⟩ := conv_row (P := Tryd.prog) 9 31 5 Tryd.underlying9 Tryd.underlying31 Tryd.underlying5 ⟨(sealed s.data.toList).toArray⟩ (by rw [hsz]; unfold maxLen; omega)
  rw [hsz] at hconv hcb
  have HCB : Hid (∀ w, ByteRow (CW w) w.heap.size n 5 (chg (sealed s.data.toList) C 0 0)) := fun w => by
    obtain ⟨g, cap, e, _, hr⟩ := (hcb.out w).row
    have e2 : w.heap.size = g := by simpa using congrArg (fun v => match v with | Value.slice (some a) _ _ => a.block | _ => 0) e
    rw [← e2] at hr
    have h3 : (ByteArray.mk (sealed s.data.toList).toArray).data.toList = sealed s.data.toList := rfl
    rw [h3, hln] at hr
    exact hr.congr (fun j _ => (chg_zero _ C 0 j).symm)
  have HSU : Hid (s.size ≤ 281474976710656) := by show _ ≤ _; omega
  have HLN := Lib.hid hln
  have HSZ := Lib.hid hsz
  have HC := Lib.hid hC
  clear hs hT hn hcb hln hsz hA hC
  go_enter Tryd.func5, Tryd.ntmps5
  go_wp2_with fail
  refine (speaks3_any _ (HTU.out _ (Upd.refl _ _))).mono ?_
  rintro e w1 ⟨rfl, rfl⟩
  go_wp2_with fail
  refine (seal_any s _ HSU.out (HTU.out _ (Upd.refl _ _))).mono ?_
  rintro e w1 ⟨rfl, hu⟩
  have HU1 := Lib.hid (hu.trans (hcu.out w1))
  have hsz1 := hu.size
  have HB1 := Lib.hid (HCB.out w1)
  clear hu
  go_wp2
  generalize CW w1 = v1 at *
  generalize CC w1 = cap1 at *
  generalize w1.heap.size = g1 at *
  clear hconv HCB hcu
  obtain ⟨M, hM⟩ : ∃ M, M = 4 := ⟨_, rfl⟩
  have hM4 : M ≤ 4 := by omega
  have hMn : M ≤ n := by omega
  have HM := Lib.hid hM
  clear hM
  go_loopw [8, 9, 10] (fun ch i _ wr => ∃ k : Nat, k ≤ M ∧ i = .int .i64 (k : Int) ∧ ch = .bool (chB C k) ∧ Hid (ByteRow wr g1 n 5 (chg (sealed s.data.toList) C 0 k)) ∧ Hid (Upd noBlock w wr)) (fun _ i _ _ => 4 - (intOf i).toNat)
  case atStart => exact ⟨0, Nat.zero_le _, rfl, rfl, HB1, HU1⟩
  case round =>
    clear HB1 HU1
    obtain ⟨k, hk, rfl, rfl, HB, HU⟩ := hrel
    by_cases h0 : k < M
    · have hk4 : k < 4 := by omega
      have hkn : (k : Int) < (n : Int) := by have := HM.out; omega
      have hAk : k < n := by omega
      have e0 : ∀ m : Nat, chg (sealed s.data.toList) C 0 m (0 + m) = ((sealed s.data.toList).getD (0 + m) 0).toNat := chg_at _ C 0
      have c1 := HB.out.cell k hAk
      have f1 := HB.out.free k hAk
      have e1 : chg (sealed s.data.toList) C 0 k k = ((sealed s.data.toList).getD k 0).toNat := by have := e0 k; rw [Nat.zero_add] at this; exact this
      rw [e1] at c1
      clear e0 e1
      have HC1 : Hid (chB C (k + 1) = (chB C k || !(xb C k == 0))) := rfl
      have hx : bits .xor .u8 ((((sealed s.data.toList).getD k 0).toNat : Nat) : Int) ((xb C k : Nat) : Int) = ((((sealed s.data.toList).getD k 0).toNat ^^^ xb C k : Nat) : Int) := u8_xor_nat _ _ (u8_lt _) (xb_lt _ _)
      have HB2 := Lib.hid (HB.out.set k (((sealed s.data.toList).getD k 0).toNat ^^^ xb C k))
      have HB3 : Hid (ByteRow (wr.setCell ⟨g1, k, none⟩ (.int .u8 ((((sealed s.data.toList).getD k 0).toNat ^^^ xb C k : Nat) : Int))) g1 n 5 (chg (sealed s.data.toList) C 0 (k + 1))) := HB2.out.congr (fun j _ => by have := chg_succ (sealed s.data.toList) C 0 k j; rw [Nat.zero_add] at this; exact this.symm)
      have HU3 : Hid (Upd noBlock w (wr.setCell ⟨g1, k, none⟩ (.int .u8 ((((sealed s.data.toList).getD k 0).toNat ^^^ xb C k : Nat) : Int)))) := HU.out.setCell (.inr hsz1) _
      have hxv : (C : Int) / 2 ^ (8 * k) % 256 = ((xb C k : Nat) : Int) := by
        unfold xb
        rw [Int.natCast_emod, Int.natCast_ediv, show (256 : Nat) ^ k = 2 ^ (8 * k) by rw [Nat.pow_mul], Int.natCast_pow]; rfl
      clear HB2 HB HU
      generalize xb C k = x at *
      generalize ((sealed s.data.toList).getD k 0).toNat = y at *
      generalize y ^^^ x = z at *
      have hne : ((x : Int) != 0) = !(x == 0) := by
        cases x <;> simp <;> omega
      generalize (!(x == 0)) = xz at *
      cases hch : chB C k
      all_goals
        rw [hch] at HC1
        clear hch
        go_wp2
        go_roundw
        case rel => exact ⟨k + 1, by omega, by go_num, by rw [HC1.out]; simp, HB3, HU3⟩
        case measure => simp [intOf]; omega
    · obtain rfl : k = M := by omega
      have hcv := HB.out.text (P := Tryd.prog) (chL (sealed s.data.toList) C 0 k) (by rw [chL_length, HLN.out]) (fun j hj => chL_get _ C 0 k j hj) cap1 31 9 Tryd.underlying31 Tryd.underlying5 Tryd.underlying9
      have hle : 0 + k ≤ (sealed s.data.toList).length := by rw [HLN.out]; rw [Nat.zero_add]; exact hMn
      have HSL : Hid ((ByteArray.mk (chL (sealed s.data.toList) C 0 k).toArray).size ≤ 281474976710656) := by
        show (chL (sealed s.data.toList) C 0 k).length ≤ _
        rw [chL_length, HLN.out]; omega
      have HHU := HU
      cases hch : chB C k
      · have HYES := Lib.hid (chL_yes s.data.toList C 0 k hle hch)
        have HOP := Lib.hid (fun w hT => open_yes s.data.toList ⟨(chL (sealed s.data.toList) C 0 k).toArray⟩ w HYES.out HSL.out hT)
        clear hch HB hle
        by_cases h4 : k = 4
        · have t1 : ¬ ((k : Int) < 4) := by omega
          clear h4
          go_wp2_with fail
          refine (HOP.out _ (HTU.out _ HU.out)).mono ?_
          rintro e w2 ⟨rfl, hu⟩
          have HU2 := Lib.hid (HU.out.trans hu)
          clear hu HOP
          go_wp2_with fail
          go_ret
          exact ⟨rfl, HU2.out.below (fun _ _ h => h)⟩
        · have t0 : (k : Int) < 4 := by omega
          have t1 : ¬ ((k : Int) < (n : Int)) := by have := HM.out; omega
          clear h4
          go_wp2_with fail
          refine (HOP.out _ (HTU.out _ HU.out)).mono ?_
          rintro e w2 ⟨rfl, hu⟩
          have HU2 := Lib.hid (HU.out.trans hu)
          clear hu HOP
          go_wp2_with fail
          go_ret
          exact ⟨rfl, HU2.out.below (fun _ _ h => h)⟩
      · have HNO := Lib.hid (chL_no s.data.toList C 0 k hle hM4 hch)
        have HOP := Lib.hid (fun w hT => open_no ⟨(chL (sealed s.data.toList) C 0 k).toArray⟩ w HNO.out HSL.out hT)
        clear hch HB hle
        by_cases h4 : k = 4
        · have t1 : ¬ ((k : Int) < 4) := by omega
          clear h4
          go_wp2_with fail
          refine (HOP.out _ (HTU.out _ HU.out)).mono ?_
          rintro e w2 ⟨rfl, hu⟩
          have HU2 := Lib.hid (HU.out.trans hu)
          clear hu HOP
          go_wp2_with fail
          go_ret
          exact ⟨rfl, HU2.out.below (fun _ _ h => h)⟩
        · have t0 : (k : Int) < 4 := by omega
          have t1 : ¬ ((k : Int) < (n : Int)) := by have := HM.out; omega
          clear h4
          go_wp2_with fail
          refine (HOP.out _ (HTU.out _ HU.out)).mono ?_
          rintro e w2 ⟨rfl, hu⟩
          have HU2 := Lib.hid (HU.out.trans hu)
          clear hu HOP
          go_wp2_with fail
          go_ret
          exact ⟨rfl, HU2.out.below (fun _ _ h => h)⟩
set_option maxRecDepth 20000 in
set_option maxHeartbeats 1600000 in
theorem crcTells_high (s : ByteArray) (at' : Int) (C : Nat) (w : World) (hs : s.size ≤ 140737488351232) (hA : (s.size : Int) + 4 ≤ at') (hC : C < 2 ^ 32) (hT : Tab w) :
    Calls Tryd.prog 5 #[.string s, .int .i64 at', .int .u32 (C : Int)] w fun e w' => e = .returned (.bool true) ∧ Below w.heap.size w w' := by
  have HTU := Lib.hid (fun (x : World) (hx : Upd noBlock w x) => hT.upd hx)
  have HS := Lib.hid hs
  obtain ⟨n, hn⟩ : ∃ n, n = s.size + 4 := ⟨_, rfl⟩
  have hln : (sealed s.data.toList).length = n := by rw [sealed_length, hn]; rfl
  have hsz : (ByteArray.mk (sealed s.data.toList).toArray).size = n := hln
  have hAn : 0 < n := by omega
  have hn4 : 4 ≤ n := by omega
  have hn9 : n ≤ 140737488351236 := by omega
  have hA0 : decide (at' < 0) = false := decide_eq_false (by omega)
  have hA1 : decide ((n : Int) ≤ at') = true := decide_eq_true (by omega)
  obtain ⟨CW, CC, hconv, hcu, hcb⟩ := conv_row (P := Tryd.prog) 9 31 5 Tryd.underlying9 Tryd.underlying31 Tryd.underlying5 ⟨(sealed s.data.toList).toArray⟩ (by rw [hsz]; unfold maxLen; omega)
  rw [hsz] at hconv hcb
  have HCB : Hid (∀ w, ByteRow (CW w) w.heap.size n 5 (chg (sealed s.data.toList) C 0 0)) := fun w => by
    obtain ⟨g, cap, e, _, hr⟩ := (hcb.out w).row
    have e2 : w.heap.size = g := by simpa using congrArg (fun v => match v with | Value.slice (some a) _ _ => a.block | _ => 0) e
    rw [← e2] at hr
    have h3 : (ByteArray.mk (sealed s.data.toList).toArray).data.toList = sealed s.data.toList := rfl
    rw [h3, hln] at hr
    exact hr.congr (fun j _ => (chg_zero _ C 0 j).symm)
  have HSU : Hid (s.size ≤ 281474976710656) := by show _ ≤ _; omega
  have HLN := Lib.hid hln
  have HSZ := Lib.hid hsz
  have HC := Lib.hid hC
  clear hs hT hn hcb hln hsz hA hC
  go_enter Tryd.func5, Tryd.ntmps5
  go_wp2_with fail
  refine (speaks3_any _ (HTU.out _ (Upd.refl _ _))).mono ?_
  rintro e w1 ⟨rfl, rfl⟩
  go_wp2_with fail
  refine (seal_any s _ HSU.out (HTU.out _ (Upd.refl _ _))).mono ?_
  rintro e w1 ⟨rfl, hu⟩
  have HU1 := Lib.hid (hu.trans (hcu.out w1))
  have hsz1 := hu.size
  have HB1 := Lib.hid (HCB.out w1)
  clear hu
  go_wp2
  generalize CW w1 = v1 at *
  generalize CC w1 = cap1 at *
  generalize w1.heap.size = g1 at *
  clear hconv HCB hcu
  obtain ⟨M, hM⟩ : ∃ M, M = 4 := ⟨_, rfl⟩
  have hM4 : M ≤ 4 := by omega
  have hMn : M ≤ n := by omega
  have HM := Lib.hid hM
  clear hM
  go_loopw [8, 9, 10] (fun ch i _ wr => ∃ k : Nat, k ≤ M ∧ i = .int .i64 (k : Int) ∧ ch = .bool (chB C k) ∧ Hid (ByteRow wr g1 n 5 (chg (sealed s.data.toList) C 0 k)) ∧ Hid (Upd noBlock w wr)) (fun _ i _ _ => 4 - (intOf i).toNat)
  case atStart => exact ⟨0, Nat.zero_le _, rfl, rfl, HB1, HU1⟩
  case round =>
    clear HB1 HU1
    obtain ⟨k, hk, rfl, rfl, HB, HU⟩ := hrel
    by_cases h0 : k < M
    · have hk4 : k < 4 := by omega
      have hkn : (k : Int) < (n : Int) := by have := HM.out; omega
      have hAk : k < n := by omega
      have e0 : ∀ m : Nat, chg (sealed s.data.toList) C 0 m (0 + m) = ((sealed s.data.toList).getD (0 + m) 0).toNat := chg_at _ C 0
      have c1 := HB.out.cell k hAk
      have f1 := HB.out.free k hAk
      have e1 : chg (sealed s.data.toList) C 0 k k = ((sealed s.data.toList).getD k 0).toNat := by have := e0 k; rw [Nat.zero_add] at this; exact this
      rw [e1] at c1
      clear e0 e1
      have HC1 : Hid (chB C (k + 1) = (chB C k || !(xb C k == 0))) := rfl
      have hx : bits .xor .u8 ((((sealed s.data.toList).getD k 0).toNat : Nat) : Int) ((xb C k : Nat) : Int) = ((((sealed s.data.toList).getD k 0).toNat ^^^ xb C k : Nat) : Int) := u8_xor_nat _ _ (u8_lt _) (xb_lt _ _)
      have HB2 := Lib.hid (HB.out.set k (((sealed s.data.toList).getD k 0).toNat ^^^ xb C k))
      have HB3 : Hid (ByteRow (wr.setCell ⟨g1, k, none⟩ (.int .u8 ((((sealed s.data.toList).getD k 0).toNat ^^^ xb C k : Nat) : Int))) g1 n 5 (chg (sealed s.data.toList) C 0 (k + 1))) := HB2.out.congr (fun j _ => by have := chg_succ (sealed s.data.toList) C 0 k j; rw [Nat.zero_add] at this; exact this.symm)
      have HU3 : Hid (Upd noBlock w (wr.setCell ⟨g1, k, none⟩ (.int .u8 ((((sealed s.data.toList).getD k 0).toNat ^^^ xb C k : Nat) : Int)))) := HU.out.setCell (.inr hsz1) _
      have hxv : (C : Int) / 2 ^ (8 * k) % 256 = ((xb C k : Nat) : Int) := by
        unfold xb
        rw [Int.natCast_emod, Int.natCast_ediv, show (256 : Nat) ^ k = 2 ^ (8 * k) by rw [Nat.pow_mul], Int.natCast_pow]; rfl
      clear HB2 HB HU
      generalize xb C k = x at *
      generalize ((sealed s.data.toList).getD k 0).toNat = y at *
      generalize y ^^^ x = z at *
      have hne : ((x : Int) != 0) = !(x == 0) := by
        cases x <;> simp <;> omega
      generalize (!(x == 0)) = xz at *
      cases hch : chB C k
      all_goals
        rw [hch] at HC1
        clear hch
        go_wp2
        go_roundw
        case rel => exact ⟨k + 1, by omega, by go_num, by rw [HC1.out]; simp, HB3, HU3⟩
        case measure => simp [intOf]; omega
    · obtain rfl : k = M := by omega
      have hcv := HB.out.text (P := Tryd.prog) (chL (sealed s.data.toList) C 0 k) (by rw [chL_length, HLN.out]) (fun j hj => chL_get _ C 0 k j hj) cap1 31 9 Tryd.underlying31 Tryd.underlying5 Tryd.underlying9
      have hle : 0 + k ≤ (sealed s.data.toList).length := by rw [HLN.out]; rw [Nat.zero_add]; exact hMn
      have HSL : Hid ((ByteArray.mk (chL (sealed s.data.toList) C 0 k).toArray).size ≤ 281474976710656) := by
        show (chL (sealed s.data.toList) C 0 k).length ≤ _
        rw [chL_length, HLN.out]; omega
      have HHU := HU
      cases hch : chB C k
      · have HYES := Lib.hid (chL_yes s.data.toList C 0 k hle hch)
        have HOP := Lib.hid (fun w hT => open_yes s.data.toList ⟨(chL (sealed s.data.toList) C 0 k).toArray⟩ w HYES.out HSL.out hT)
        clear hch HB hle
        by_cases h4 : k = 4
        · have t1 : ¬ ((k : Int) < 4) := by omega
          clear h4
          go_wp2_with fail
          refine (HOP.out _ (HTU.out _ HU.out)).mono ?_
          rintro e w2 ⟨rfl, hu⟩
          have HU2 := Lib.hid (HU.out.trans hu)
          clear hu HOP
          go_wp2_with fail
          go_ret
          exact ⟨rfl, HU2.out.below (fun _ _ h => h)⟩
        · have t0 : (k : Int) < 4 := by omega
          have t1 : ¬ ((k : Int) < (n : Int)) := by have := HM.out; omega
          clear h4
          go_wp2_with fail
          refine (HOP.out _ (HTU.out _ HU.out)).mono ?_
          rintro e w2 ⟨rfl, hu⟩
          have HU2 := Lib.hid (HU.out.trans hu)
          clear hu HOP
          go_wp2_with fail
          go_ret
          exact ⟨rfl, HU2.out.below (fun _ _ h => h)⟩
      · have HNO := Lib.hid (chL_no s.data.toList C 0 k hle hM4 hch)
        have HOP := Lib.hid (fun w hT => open_no ⟨(chL (sealed s.data.toList) C 0 k).toArray⟩ w HNO.out HSL.out hT)
        clear hch HB hle
        by_cases h4 : k = 4
        · have t1 : ¬ ((k : Int) < 4) := by omega
          clear h4
          go_wp2_with fail
          refine (HOP.out _ (HTU.out _ HU.out)).mono ?_
          rintro e w2 ⟨rfl, hu⟩
          have HU2 := Lib.hid (HU.out.trans hu)
          clear hu HOP
          go_wp2_with fail
          go_ret
          exact ⟨rfl, HU2.out.below (fun _ _ h => h)⟩
        · have t0 : (k : Int) < 4 := by omega
          have t1 : ¬ ((k : Int) < (n : Int)) := by have := HM.out; omega
          clear h4
          go_wp2_with fail
          refine (HOP.out _ (HTU.out _ HU.out)).mono ?_
          rintro e w2 ⟨rfl, hu⟩
          have HU2 := Lib.hid (HU.out.trans hu)
          clear hu HOP
          go_wp2_with fail
          go_ret
          exact ⟨rfl, HU2.out.below (fun _ _ h => h)⟩
theorem crcTells_walk (s : ByteArray) (at' c : Int) (w : World) (hs : s.size ≤ 140737488351232) (_hat : (Lit.int .i64 at').wf = true) (hc : (Lit.int .u32 c).wf = true) (hT : Tab w) :
    Calls Tryd.prog 5 #[.string s, .int .i64 at', .int .u32 c] w fun e w' => e = .returned (.bool true) ∧ Below w.heap.size w w' := by
  obtain ⟨C, rfl, hC⟩ : ∃ n : Nat, c = (n : Int) ∧ n < 2 ^ 32 := by
    have := u32_of_wf hc
    exact ⟨c.toNat, by omega, by omega⟩
  by_cases h0 : at' < 0
  · exact crcTells_low s at' C w hs h0 hC hT
  · by_cases h1 : (s.size : Int) + 4 ≤ at'
    · exact crcTells_high s at' C w hs h1 hC hT
    · obtain ⟨A, rfl⟩ := Int.eq_ofNat_of_zero_le (show 0 ≤ at' by omega)
      exact crcTells_in s A C w hs (by omega) hC hT
end Go.Proofs.YtgnhapdccmbcjaaDoor
