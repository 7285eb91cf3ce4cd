/- Walk over the document's own Generator. -/
import Derived.Test.YtcmcjojjphhffaaPJ
namespace Go.Proofs.Ytcmcjojjphhffaa
open Go.RowKit Pm Gfm
attribute [local irreducible] Pm.exps pmul mp GG mpol mres

theorem slotParts : ∃ i1, Try.prog.info? 22 = some i1 ∧ i1.zero = some (.slice none 0 0) ∧ i1.size = 1 ∧ i1.bytes = 24 := by
  have intCells : (Try.prog.info? 22).map (fun i => (i.zero, i.size, i.bytes)) = some (some (.slice none 0 0), 1, 24) := by kernel_rfl
  obtain ⟨i0, h1, h2⟩ := Option.map_eq_some_iff.1 intCells
  simp only [Prod.mk.injEq] at h2
  exact ⟨i0, h1, h2.1, h2.2.1, h2.2.2⟩
theorem slot_one (a : Option Addr) (n c : Nat) : ∀ u ∈ [Value.slice a n c], u.oneCell' = true := by
  intro u hu
  obtain rfl : u = .slice a n c := by simpa using hu
  rfl
theorem GG_zero : gat [0] = GG 0 := by unfold GG; rfl
theorem GG_next (i : Nat) : pmul (GG i) (mp i) = GG (i + 1) := by conv => rhs; unfold GG
theorem exps_one : exps (GG 0) = [0] := by
  have h : GG 0 = 1 := by rw [← GG_zero]; decide
  rw [h]
  unfold Pm.exps
  rw [lst_up 1 top 1 (by omega) (by unfold top; omega)]
  rfl

set_option maxRecDepth 20000 in
set_option maxHeartbeats 3200000 in
theorem rGenerator_any (t : Nat) (w : World) (ht1 : 1 ≤ t) (ht8 : t ≤ 8) :
    Calls Try.prog 22 #[.int .i64 (t : Int)] w fun e w' => ∃ v, e = .returned v ∧ PolyV w w' v (GG t) ∧ Upd noBlock w w' := by
  obtain ⟨i1, hi1, hz0, hz1, hz2⟩ := slotParts
  have hnot : ∀ (x : Bool) (w : World), (Op.unary .not (.bool x)).run Try.prog w = .ok (.bool (!x)) w := fun _ _ => rfl
  have HU0 : Hid (Upd noBlock w (w.alloc (.cells #[.int .i64 0] 3))) := (Upd.refl _ _).alloc _
  have HP0 : Hid (PolyV w (w.alloc (.cells #[.int .i64 0] 3)) (.slice (some ⟨w.heap.size, 0, none⟩) 1 1) (GG 0)) := by
    refine ⟨?_, GG_top 0 (by omega)⟩
    rw [exps_one]
    exact ⟨rfl, .inr ⟨w.heap.size, 1, #[.int .i64 0], rfl, Nat.le_refl _, heap_alloc_new w _, Nat.le_refl _, by unfold maxLen; omega, rfl, rfl⟩⟩
  go_enter Try.func22, Try.ntmps22
  go_wp2_with fail
  go_loopw [3, 4, 5] (fun ov sv k wr => ∃ (i : Nat) (L : List Value), i ≤ t ∧ k = .int .i64 (2 * (i : Int) + 1) ∧ Hid (PolyV w wr ov (GG i)) ∧ Hid (wr.ownsRow w.heap.size 22 1 sv i L) ∧ Hid (∀ j, j < i → ∃ v, L[j]? = some v ∧ PolyV w wr v (mp j)) ∧ Hid (Upd noBlock w wr)) (fun _ _ k _ => (17 - intOf k).toNat)
  case atStart => exact ⟨0, [], Nat.zero_le _, rfl, HP0, World.ownsRow_nil _ _ _ _, fun j hj => absurd hj (by omega), HU0⟩
  case round =>
    clear HP0 HU0
    obtain ⟨i, L, hi, rfl, HP, HS, HL, HU⟩ := hrel
    by_cases hit : i < t
    · have hlt : 2 * (i : Int) + 1 < 2 * (t : Int) := by omega
      have hi8 : i < 8 := by omega
      go_wp2_with fail
      refine (rMinimal_any _ _).mono ?_
      rintro e w1 ⟨v1, rfl, hv1, hu1⟩
      rw [mres_mp i hi8] at hv1
      have HP1 : Hid (PolyV w w1 _ (GG i)) := ⟨own_upd HP.out.1 hu1, HP.out.2⟩
      have HS1 := Lib.hid (own_upd HS.out hu1)
      have HL1 : Hid (∀ j, j < i → ∃ v, L[j]? = some v ∧ PolyV w w1 v (mp j)) := fun j hj => by
        obtain ⟨v, h1, h2⟩ := HL.out j hj
        exact ⟨v, h1, own_upd h2.1 hu1, h2.2⟩
      have HV1 : Hid (PolyV w w1 v1 (mp i)) := ⟨own_more hv1.1 HU.out.size, hv1.2⟩
      have HU1 := Lib.hid (HU.out.trans hu1)
      clear HP HS HL HU hv1 hu1
      go_wp2_with fail
      go_loopw [7, 8] (fun kn j wr => ∃ q : Nat, q ≤ i ∧ kn = .bool false ∧ j = .int .i64 (q : Int) ∧ Hid (Upd noBlock w1 wr)) (fun _ j _ => i - (intOf j).toNat)
      case atStart => exact ⟨0, Nat.zero_le _, rfl, rfl, Upd.refl _ _⟩
      case round =>
        obtain ⟨q, hq, rfl, rfl, HQ⟩ := hrel
        have HP2 : Hid (PolyV w wr _ (GG i)) := ⟨own_upd HP1.out.1 HQ.out, HP1.out.2⟩
        have HS2 := Lib.hid (own_upd HS1.out HQ.out)
        have HL2 : Hid (∀ j, j < i → ∃ v, L[j]? = some v ∧ PolyV w wr v (mp j)) := fun j hj => by
          obtain ⟨v, h1, h2⟩ := HL1.out j hj
          exact ⟨v, h1, own_upd h2.1 HQ.out, h2.2⟩
        have HV2 : Hid (PolyV w wr v1 (mp i)) := ⟨own_upd HV1.out.1 HQ.out, HV1.out.2⟩
        obtain ⟨sa, sc, rfl, sm, sl, scell⟩ := own_slots HS2.out
        obtain ⟨a1, c1, rfl, hi1', m1, _⟩ := own_ints HV2.out.1
        have HI1 := Lib.hid hi1'
        clear hi1'
        by_cases hqi : q < i
        · obtain ⟨g, rfl, _, hcell⟩ := scell (by omega)
          obtain ⟨u, hu, hpu⟩ := HL2.out q hqi
          have cc := hcell q u hu
          obtain ⟨a2, c2, rfl, hi2', m2, _⟩ := own_ints hpu.1
          have HI2 := Lib.hid hi2'
          have HNE := Lib.hid (mp_apart i q hi8 hqi)
          clear scell hcell hu hpu hi2'
          go_wp2_with fail
          refine (same_no _ _ _ _ _ _ _ _ _ _ _ HI2.out HI1.out m2 HNE.out).mono ?_
          rintro e w2 ⟨rfl, hu2⟩
          have HQ2 := Lib.hid (HQ.out.trans hu2)
          clear hu2
          go_wp2_with fail
          go_roundw
          case rel => exact ⟨q + 1, by omega, rfl, by go_num, HQ2⟩
          case measure => simp [intOf]; omega
        · obtain rfl : q = i := by omega
          obtain ⟨a3, c3, rfl, hi3, m3, _⟩ := own_ints HP2.out.1
          have HS3 := Lib.hid (HS2.out.alloc (.cells #[.slice a1 (exps (mp q)).length c1] 22))
          have HUA := Lib.hid ((HU1.out.trans HQ.out).alloc (.cells #[.slice a1 (exps (mp q)).length c1] 22))
          have hun := (Upd.refl noBlock wr).alloc (.cells #[.slice a1 (exps (mp q)).length c1] 22)
          have HP3 : Hid (PolyV w (wr.alloc (.cells #[.slice a1 (exps (mp q)).length c1] 22)) _ (GG q)) := ⟨own_upd HP2.out.1 hun, HP2.out.2⟩
          have HV3 : Hid (PolyV w (wr.alloc (.cells #[.slice a1 (exps (mp q)).length c1] 22)) _ (mp q)) := ⟨own_upd HV2.out.1 hun, HV2.out.2⟩
          have HL3 : Hid (∀ j, j < q → ∃ v, L[j]? = some v ∧ PolyV w (wr.alloc (.cells #[.slice a1 (exps (mp q)).length c1] 22)) v (mp j)) := fun j hj => by
            obtain ⟨v, h1, h2⟩ := HL2.out j hj
            exact ⟨v, h1, own_upd h2.1 hun, h2.2⟩
          have HSL := Lib.hid sl
          have hsz := (HU1.out.trans HQ.out).size
          have HSZ := Lib.hid hsz
          have HI8 := Lib.hid hi8
          clear scell sl hi3 hun HP2 HS2 HL2 HV2 HP1 HS1 HL1 HV1 hsz
          generalize (exps (mp q)).length = n1 at *
          generalize (exps (GG q)).length = n3 at *
          go_wp2_with (at_builtin; refine wpList_append_own_at _ rfl (.tmp 35) (.tmp 37) _ rfl w.heap.size 22 i1 _ 1 24 Try.underlying70 hi1 hz0 hz1 hz2 rfl (by omega) _ q L rfl HS3.out ⟨wr.heap.size, 0, none⟩ 1 1 [.slice a1 n1 c1] rfl rfl (cell_one_new _ _ _) (slot_one a1 n1 c1) (by unfold maxLen; have := HI8.out; omega) (by have := HI8.out; omega) (by have := HSZ.out; simp; omega) ?_; intro sv4 w4 own g _ _; have HS4 := Lib.hid own; have HG4 := Lib.hid g; clear own g)
          have HP4 : Hid (PolyV w w4 _ (GG q)) := ⟨own_far HP3.out.1 HS3.out HG4.out, HP3.out.2⟩
          have HV4 : Hid (PolyV w w4 _ (mp q)) := ⟨own_far HV3.out.1 HS3.out HG4.out, HV3.out.2⟩
          have HL4 : Hid (∀ j, j < q + 1 → ∃ v, (L ++ [.slice a1 n1 c1])[j]? = some v ∧ PolyV w w4 v (mp j)) := fun j hj => by
            rcases Nat.lt_or_ge j q with h1 | h1
            · obtain ⟨v, h2, h3⟩ := HL3.out j h1
              exact ⟨v, by rw [List.getElem?_append_left (by rw [HSL.out]; exact h1)]; exact h2, own_far h3.1 HS3.out HG4.out, h3.2⟩
            · obtain rfl : j = q := by omega
              exact ⟨_, by rw [List.getElem?_append_right (by rw [HSL.out]; exact Nat.le_refl _), HSL.out, Nat.sub_self]; rfl, HV4.out⟩
          have HU4 := Lib.hid (HUA.out.grownOwn HG4.out (fun k hk => (HS3.out.lt k hk).1))
          obtain ⟨a5, c5, e5, hi5, m5, _⟩ := own_ints HP4.out.1
          obtain ⟨a6, c6, e6, hi6, m6, _⟩ := own_ints HV4.out.1
          cases e5
          cases e6
          have d1 := GG_deg q (by have := HI8.out; omega)
          have d2 := mp_deg ⟨q, HI8.out⟩
          have g1 : gat (exps (GG q)) = GG q := gat_exps _ (GG_top q (by have := HI8.out; omega))
          have g2 : gat (exps (mp q)) = mp q := gat_exps _ HV4.out.2
          have HMUL := Lib.hid (rMul2_ok a3 _ c3 w4.heap.size (exps (GG q)) a1 _ c1 w4.heap.size (exps (mp q)) w4 hi5 (Nat.le_refl _) m5 hi6 (Nat.le_refl _) m6 (13 * q) 13 (by rw [g1]; exact d1.1) (by rw [g1]; exact d1.2) (by rw [g2]; exact d2.1) (by rw [g2]; exact d2.2) (by have := HI8.out; omega))
          rw [g1, g2, GG_next] at HMUL
          clear d1 d2 g1 g2 hi5 hi6 HP4 HV4 HP3 HV3 HL3 HS3 HG4 HUA
          go_wp2_with fail
          refine HMUL.out.mono ?_
          rintro e w5 ⟨v5, rfl, hv5, hu5⟩
          have HP5 : Hid (PolyV w w5 v5 (GG (q + 1))) := ⟨own_more hv5.1 HU4.out.size, hv5.2⟩
          have HS5 := Lib.hid (own_upd HS4.out hu5)
          have HL5 : Hid (∀ j, j < q + 1 → ∃ v, (L ++ [.slice a1 (exps (mp q)).length c1])[j]? = some v ∧ PolyV w w5 v (mp j)) := fun j hj => by
            obtain ⟨v, h1, h2⟩ := HL4.out j hj
            exact ⟨v, h1, own_upd h2.1 hu5, h2.2⟩
          have HU5 := Lib.hid (HU4.out.trans hu5)
          clear hv5 hu5 HS4 HL4 HU4 HMUL
          go_wp2_with fail
          go_roundw
          case rel => exact ⟨q + 1, _, by omega, by go_num, HP5, HS5, HL5, HU5⟩
          case measure => simp [intOf]; omega
    · obtain rfl : i = t := by omega
      have hlt : ¬ (2 * (i : Int) + 1 < 2 * (i : Int)) := by omega
      go_wp2_with fail
      go_ret
      exact ⟨_, rfl, HP.out, HU.out⟩
end Go.Proofs.Ytcmcjojjphhffaa
