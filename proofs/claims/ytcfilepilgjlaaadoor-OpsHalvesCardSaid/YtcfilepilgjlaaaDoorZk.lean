/- repeated. -/
import Derived.Test.YtcfilepilgjlaaaDoorZj
import Derived.BigQuiet
import Derived.IntWalk
namespace Go.Proofs.YtcfilepilgjlaaaDoor
open Go.RowKit

theorem ext_yes (l : List UInt8) (frm p n : Nat) (h1 : n < 130) (h2 : p + n < l.length) (h3 : l.getD (frm + n) 0 = l.getD (p + n) 0) : ext l frm p (130 - n) n = ext l frm p (130 - (n + 1)) (n + 1) := by
  rw [show 130 - n = (130 - (n + 1)) + 1 by omega, ext, if_pos ⟨h1, h2, h3⟩]
theorem ext_no (l : List UInt8) (frm p n : Nat) (h : ¬ (n < 130 ∧ p + n < l.length ∧ l.getD (frm + n) 0 = l.getD (p + n) 0)) : ext l frm p (130 - n) n = n := by
  cases e : 130 - n with
  | zero => rfl
  | succ k => rw [ext, if_neg h]

set_option maxRecDepth 20000 in
set_option maxHeartbeats 3200000 in
theorem repeated_any (l : List UInt8) (q : ByteArray) (hq : q = ⟨l.toArray⟩) (B g mb : Nat) (T : List UInt8) (d n : Nat) (p : Nat) (w : World) (h : Pin w B g mb q T d n (prev l p)) (hl : l.length ≤ 65536) (hp : p ≤ l.length) :
    Calls Tryd.prog 43 #[.pointer (some ⟨g, 0, none⟩), .int .i64 (p : Int)] w fun e w' => e = .returned (.tuple #[.int .i64 ((rep l p).1 : Int), .int .i64 ((rep l p).2 : Int)]) ∧ Upd noBlock w w' := by
  obtain ⟨v, h1, h2⟩ := h.row
  have c0 : w.cell? ⟨g, 0, none⟩ = some (.string q) := cell_of h1 0
  have H := fun w c0 => three_any l q hq g p w c0 hl hp
  have c3 : w.cell? ⟨g, 3, none⟩ = some (.map (some mb)) := cell_of h1 3
  have hg := lt_of_block h1
  have HC0 : Hid (∀ w1, Upd noBlock w w1 → w1.cell? ⟨g, 0, none⟩ = some (.string q)) := fun w1 hu => upd_cell hu c0
  have HC3 : Hid (∀ w1, Upd noBlock w w1 → w1.cell? ⟨g, 3, none⟩ = some (.map (some mb))) := fun w1 hu => upd_cell hu c3
  cases h3 : three l p with
  | none =>
    have hr : rep l p = (0, 0) := by unfold rep; rw [h3]
    rw [hr]
    rw [h3] at H
    have HT := Lib.hid (H w c0)
    clear H h3 h1 h2 h hr c0 c3
    go_enter Tryd.func43, Tryd.ntmps43
    go_wp2_with (go_at_call 50; refine HT.out.mono ?_; rintro e w1 ⟨rfl, hu⟩; unfold kv3 kv; have HU := Lib.hid hu; clear hu)
    go_ret2
    exact ⟨rfl, HU.out.alloc _⟩
  | some t =>
    obtain ⟨a, b, c⟩ := t
    have HL : Hid (∀ w1, Upd noBlock w w1 → (Instr.lookup 84 (.map (some mb)) (.agg #[.int .u8 (a.toNat : Int), .int .u8 (b.toNat : Int), .int .u8 (c.toNat : Int)]) true).run Tryd.prog w1 = .ok (.tuple #[.int .i64 ((((prev l p) a b c).getD 0 : Nat) : Int), .bool ((prev l p) a b c).isSome]) w1) := fun w1 hu => (h.upd hu).map.look a b c
    have hne : Hid (∀ w1, Upd noBlock w w1 → ¬ g = w1.heap.size ∧ ¬ w1.heap.size = g) := fun w1 hu => by
      have := hu.size
      exact ⟨by omega, by omega⟩
    rw [h3] at H
    have HT := Lib.hid (H w c0)
    cases hpv : prev l p a b c with
    | none =>
      have hr : rep l p = (0, 0) := by unfold rep; rw [h3]; simp only; rw [hpv]
      rw [hr]
      rw [hpv] at HL
      clear H h3 h1 h2 h hr c0 c3 hpv
      go_enter Tryd.func43, Tryd.ntmps43
      go_wp2_with (go_at_call 50; refine HT.out.mono ?_; rintro e w1 ⟨rfl, hu⟩; unfold kv3 kv; have HU := Lib.hid hu; clear hu; have cc := HC3.out _ (HU.out.alloc (.cells #[.int .u8 (a.toNat : Int), .int .u8 (b.toNat : Int), .int .u8 (c.toNat : Int)] 91)); have ll := HL.out _ (HU.out.alloc (.cells #[.int .u8 (a.toNat : Int), .int .u8 (b.toNat : Int), .int .u8 (c.toNat : Int)] 91)).drew)
      go_region
      all_goals
        go_wp2
        go_ret2
        exact ⟨rfl, (HU.out.alloc _).drew⟩
    | some frm =>
      have hr : rep l p = (frm, ext l frm p 127 3) := by unfold rep; rw [h3]; simp only; rw [hpv]
      obtain ⟨hfp, h3f⟩ := prev_some l p a b c frm hpv
      have f3 := (three_some h3f).1
      have p3 := (three_some h3).1
      obtain ⟨M, hM⟩ : ∃ M, ext l frm p 127 3 = M := ⟨_, rfl⟩
      rw [hr, hM]
      rw [hpv] at HL
      have HM : Hid (ext l frm p (130 - 3) 3 = M) := hM
      have hsz : q.size = l.length := by rw [hq]; rfl
      have HX : Hid (∀ (i : Nat), i < l.length → ∀ (hi : i < q.size), (q[i]'hi).toNat = (l.getD i 0).toNat) := fun i hi' hi => q_at hq i (l.getD i 0) (by rw [List.getD_eq_getElem?_getD, List.getElem?_eq_getElem hi']; rfl) hi
      clear H h3 h1 h2 h hr c0 c3 hpv hM hq h3f
      go_enter Tryd.func43, Tryd.ntmps43
      go_wp2_with (go_at_call 50; refine HT.out.mono ?_; rintro e w1 ⟨rfl, hu⟩; unfold kv3 kv; have HU := Lib.hid hu; clear hu; have cc := HC3.out _ (HU.out.alloc (.cells #[.int .u8 (a.toNat : Int), .int .u8 (b.toNat : Int), .int .u8 (c.toNat : Int)] 91)); have ll := HL.out _ (HU.out.alloc (.cells #[.int .u8 (a.toNat : Int), .int .u8 (b.toNat : Int), .int .u8 (c.toNat : Int)] 91)).drew)
      go_region
      go_wp2
      clear cc ll
      go_loopw [9] (fun i wr => ∃ (k : Nat), i = .int .i64 (k : Int) ∧ 3 ≤ k ∧ k ≤ 130 ∧ p + k ≤ l.length ∧ Hid (ext l frm p (130 - k) k = M) ∧ Hid (Upd noBlock w wr)) (fun i _ => 130 - (intOfZ i).toNat)
      case atStart => exact ⟨3, rfl, Nat.le_refl _, by omega, p3, HM, (HU.out.alloc _).drew⟩
      case round =>
        obtain ⟨k, rfl, hk3, hk, hpk, HE, HW⟩ := hrel
        have cc0 := HC0.out _ HW.out
        have hw1 : IntKind.i64.wrap ((p : Int) + (k : Int)) = (p : Int) + (k : Int) := IntWalk.i64_in _ (by omega)
        have hw2 : IntKind.i64.wrap ((frm : Int) + (k : Int)) = (frm : Int) + (k : Int) := IntWalk.i64_in _ (by omega)
        by_cases k1 : k < 130
        · by_cases k2 : p + k < l.length
          · have x1 := HX.out (frm + k) (by omega)
            have x2 := HX.out (p + k) k2
            have k1' : decide ((k : Int) < 130) = true := decide_eq_true (by omega)
            have k2' : decide ((p : Int) + k < (l.length : Int)) = true := decide_eq_true (by omega)
            have hb1 : frm + k < l.length := by omega
            have hb0 : (0 : Int) ≤ (p : Int) + k := by omega
            have hb5 : ((frm : Int) + (k : Int)).toNat = frm + k := by omega
            have hb6 : ((p : Int) + (k : Int)).toNat = p + k := by omega
            have hb2 : (0 : Int) ≤ (frm : Int) + k := by omega
            have hb3 : (frm : Int) + k < (l.length : Int) := by omega
            have hb4 : (p : Int) + k < (l.length : Int) := by omega
            by_cases hxy : l.getD (frm + k) 0 = l.getD (p + k) 0
            · have HE2 : Hid (ext l frm p (130 - (k + 1)) (k + 1) = M) := by
                show _ = M
                rw [← ext_yes l frm p k k1 k2 hxy]; exact HE.out
              rw [hxy] at x1
              obtain ⟨X, hX⟩ : ∃ X, (l.getD (p + k) 0).toNat = X := ⟨_, rfl⟩
              rw [hX] at x1 x2
              clear hxy hX HE
              go_wp2_with fail
              go_quiet (fail)
              go_wp2
              go_roundw
              case rel => exact ⟨k + 1, by go_num, by omega, by omega, by omega, HE2, HW.out.drewN _⟩
              case measure => simp [intOfZ]; omega
            · have hke : k = M := by rw [← HE.out]; exact (ext_no l frm p k (fun h => hxy h.2.2)).symm
              obtain ⟨X, hX⟩ : ∃ X, (l.getD (frm + k) 0).toNat = X := ⟨_, rfl⟩
              obtain ⟨Y, hY⟩ : ∃ Y, (l.getD (p + k) 0).toNat = Y := ⟨_, rfl⟩
              have hne2 : ((X : Int) == (Y : Int)) = false := by
                rw [beq_eq_false_iff_ne]
                intro e
                exact hxy (UInt8.toNat_inj.1 (by omega))
              rw [hX] at x1
              rw [hY] at x2
              clear hxy hX hY HE
              subst hke
              go_wp2_with fail
              go_quiet (fail)
              go_wp2
              go_ret2
              exact ⟨rfl, HW.out.drewN _⟩
          · have hke : k = M := by rw [← HE.out]; exact (ext_no l frm p k (fun h => k2 h.2.1)).symm
            have k1' : decide ((k : Int) < 130) = true := decide_eq_true (by omega)
            have k2' : decide ((p : Int) + k < (l.length : Int)) = false := decide_eq_false (by omega)
            clear HE
            subst hke
            go_wp2_with fail
            go_quiet (fail)
            go_wp2
            go_ret2
            exact ⟨rfl, HW.out.drewN _⟩
        · have hke : k = M := by rw [← HE.out]; exact (ext_no l frm p k (fun h => k1 h.1)).symm
          have k1' : decide ((k : Int) < 130) = false := decide_eq_false (by omega)
          clear HE
          subst hke
          go_wp2_with fail
          go_quiet (fail)
          go_wp2
          go_ret2
          exact ⟨rfl, HW.out.drewN _⟩
end Go.Proofs.YtcfilepilgjlaaaDoor
