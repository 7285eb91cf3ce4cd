/- The capacity of a plan: space's, the document's. -/
import Derived.Test.YtnimgkijodfjkaaKJd
namespace Go.Proofs.Ytnimgkijodfjkaa
open Go.RowKit Pm
set_option linter.unusedVariables false

def up (r x : Nat) : Nat := (x + r - 1) / r
theorem up_zero (r : Nat) (hr : 1 ≤ r) : up r 0 = 0 := by unfold up; exact Nat.div_eq_of_lt (by omega)
theorem up_step (r x : Nat) (hr : 1 ≤ r) (hx : 0 < x) : up r x = up r (x - r) + 1 := by
  by_cases h : r ≤ x
  · unfold up
    rw [show x + r - 1 = (x - r + r - 1) + r by omega, Nat.add_div_right _ (by omega)]
  · rw [show x - r = 0 by omega, up_zero r hr]
    unfold up
    rw [show x + r - 1 = (x - 1) + r by omega, Nat.add_div_right _ (by omega), Nat.div_eq_of_lt (by omega)]
theorem up_le (r x : Nat) (hr : 1 ≤ r) : up r x ≤ x := by
  unfold up
  refine Nat.le_trans (Nat.div_le_div_right (c := r) (show x + r - 1 ≤ x * r + (r - 1) from ?_)) ?_
  · have : x * 1 ≤ x * r := Nat.mul_le_mul_left _ hr
    omega
  · rw [Nat.mul_comm, Nat.mul_add_div (by omega), Nat.div_eq_of_lt (by omega)]; omega
theorem up_mono (r : Nat) {x y : Nat} (h : x ≤ y) : up r x ≤ up r y := Nat.div_le_div_right (by omega)
def cap (h r : Nat) : Nat := h / 3 * r + (if h % 3 = 2 then r / 2 else 0)
theorem cap_all : ∀ h : Fin 27, ∀ r : Fin 63, 1 ≤ r.val → up r.val (cap h.val r.val) + up r.val (2 * cap h.val r.val) ≤ h.val ∧ h.val < up r.val (cap h.val r.val + 1) + up r.val (2 * (cap h.val r.val + 1)) ∧ cap h.val r.val ≤ 600 := by decide +kernel
theorem cap_more {h r k : Nat} (hh : h ≤ 26) (h1 : 1 ≤ r) (h2 : r ≤ 62) (hk : k < cap h r) : up r (k + 1) + up r (2 * (k + 1)) ≤ h := by
  have := (cap_all ⟨h, by omega⟩ ⟨r, by omega⟩ h1).1
  have a := up_mono r (show k + 1 ≤ cap h r by omega)
  have b := up_mono r (show 2 * (k + 1) ≤ 2 * cap h r by omega)
  exact Nat.le_trans (Nat.add_le_add a b) this
theorem cap_stop {h r : Nat} (hh : h ≤ 26) (h1 : 1 ≤ r) (h2 : r ≤ 62) : h < up r (cap h r + 1) + up r (2 * (cap h r + 1)) := (cap_all ⟨h, by omega⟩ ⟨r, by omega⟩ h1).2.1
theorem cap_le {h r : Nat} (hh : h ≤ 26) (h1 : 1 ≤ r) (h2 : r ≤ 62) : cap h r ≤ 600 := (cap_all ⟨h, by omega⟩ ⟨r, by omega⟩ h1).2.2

set_option maxRecDepth 100000 in
set_option maxHeartbeats 1600000 in
theorem up_any (r x : Nat) (w : World) (h1 : 1 ≤ r) (h2 : r ≤ 62) (hx : x ≤ 2000) :
    Calls Try.prog 16 #[.int .i64 (x : Int), .int .i64 (r : Int)] w fun e w' => e = .returned (.int .i64 (up r x : Int)) ∧ w = w' := by
  have HX := Lib.hid (up_le r x h1)
  go_enter Try.func16, Try.ntmps16
  go_wp2
  go_loopw [0, 5] (fun a b wr => ∃ (z : Int) (j : Nat), a = .int .i64 z ∧ b = .int .i64 (j : Int) ∧ Hid (j + up r z.toNat = up r x) ∧ Hid (-62 ≤ z ∧ z ≤ 2000) ∧ Hid (w = wr)) (fun a _ _ => (intOf a).toNat)
  case atStart => exact ⟨x, 0, rfl, rfl, by show _ = _; rw [Int.toNat_natCast]; omega, by show _ ∧ _; omega, rfl⟩
  case round =>
    obtain ⟨z, j, rfl, rfl, HJ, HZ, HW⟩ := hrel
    obtain rfl := HW.out
    obtain ⟨z1, z2⟩ := HZ.out
    by_cases h0 : 0 < z
    · have hj : j ≤ 2000 := by have := HJ.out; have := HX.out; omega
      have HS : Hid (j + 1 + up r (z - (r : Int)).toNat = up r x) := by
        have := HJ.out
        rw [up_step r z.toNat h1 (by omega)] at this
        show _ = _
        rw [show (z - (r : Int)).toNat = z.toNat - r by omega]; omega
      go_wp2_with fail
      go_roundw
      case rel => exact ⟨z - (r : Int), j + 1, by first | rfl | go_num, by first | rfl | go_num, HS, by show _ ∧ _; omega, by first | exact rfl | exact trivial⟩
      case measure => simp [intOf] <;> omega
    · have he := HJ.out
      rw [show z.toNat = 0 by omega, up_zero r h1, Nat.add_zero] at he
      subst he
      go_wp2_with fail
      go_ret
      exact ⟨rfl, rfl⟩

set_option maxRecDepth 100000 in
theorem plainCap_any (j y s : Int) (h r : Nat) (w : World) (hh : h ≤ 26) (hr : r ≤ 62) :
    Calls Try.prog 8 #[planV j (h : Int) (r : Int) y s] w fun e w' => e = .returned (.int .i64 (cap h r : Int)) ∧ Upd noBlock w w' := by
  obtain ⟨q, hq⟩ : ∃ q, h / 3 = q := ⟨_, rfl⟩
  obtain ⟨v, hv⟩ : ∃ v, r / 2 = v := ⟨_, rfl⟩
  obtain ⟨m, hm⟩ : ∃ m, q * r = m := ⟨_, rfl⟩
  have m2 : m ≤ 558 := by rw [← hm]; exact Nat.le_trans (Nat.mul_le_mul (show q ≤ 9 by omega) hr) (by decide)
  have v2 : v ≤ 31 := by omega
  have q1 : (h : Int) / 3 = (q : Int) := by omega
  have q2 : (r : Int) / 2 = (v : Int) := by omega
  have q3 : ((q : Int) * (r : Int)) = (m : Int) := by rw [← hm]; push_cast; rfl
  have q4 : IntKind.i64.wrap ((q : Int) * (r : Int)) = (m : Int) := by rw [q3, IntKind.wrap_i64]; omega
  have U0 : Hid (Upd noBlock w (w.alloc (.cells #[.int .i64 j, .int .i64 (h : Int), .int .i64 (r : Int), .int .i64 y, .int .i64 s] 25))) := (Upd.refl _ _).alloc _
  unfold planV
  by_cases h3 : h % 3 = 2
  · have hc : cap h r = m + v := by unfold cap; rw [if_pos h3, hq, hm, hv]
    rw [hc]
    have q5 : (h : Int) % 3 = 2 := by omega
    clear hm hq hv hc h3
    go_enter Try.func8, Try.ntmps8
    go_wp2_with fail
    go_ret
    exact ⟨by first | rfl | go_num, U0.out⟩
  · have hc : cap h r = m := by unfold cap; rw [if_neg h3, hq, hm, Nat.add_zero]
    rw [hc]
    have q5 : ¬ (h : Int) % 3 = 2 := by omega
    clear hm hq hv hc h3
    go_enter Try.func8, Try.ntmps8
    go_wp2_with fail
    go_ret
    exact ⟨rfl, U0.out⟩
set_option maxRecDepth 100000 in
theorem refCap_zero (w : World) :
    Calls Try.prog 9 #[planV 0 0 0 0 0] w fun e w' => e = .returned (.int .i64 0) ∧ Upd noBlock w w' := by
  unfold planV
  go_enter Try.func9, Try.ntmps9
  go_wp2_with fail
  go_ret
  exact ⟨rfl, (Upd.refl _ _).alloc _⟩
set_option maxRecDepth 100000 in
set_option maxHeartbeats 1600000 in
theorem refCap_any (j y s : Int) (h r : Nat) (w : World) (hh : h ≤ 26) (h1 : 1 ≤ r) (hr : r ≤ 62) :
    Calls Try.prog 9 #[planV j (h : Int) (r : Int) y s] w fun e w' => e = .returned (.int .i64 (cap h r : Int)) ∧ Upd noBlock w w' := by
  have HUP := Lib.hid (fun x W (hx : x ≤ 2000) => up_any r x W h1 hr hx)
  have HMORE := Lib.hid (fun k (hk : k < cap h r) => cap_more hh h1 hr hk)
  have HSTOP := Lib.hid (cap_stop hh h1 hr)
  have HLE := Lib.hid (cap_le hh h1 hr)
  have HUL := Lib.hid (fun x => up_le r x h1)
  generalize cap h r = N at *
  obtain ⟨wa, hwa⟩ : ∃ wa, wa = w.alloc (.cells #[.int .i64 j, .int .i64 (h : Int), .int .i64 (r : Int), .int .i64 y, .int .i64 s] 30) := ⟨_, rfl⟩
  have HG : Hid (wa.heap[w.heap.size]? = some (.cells #[.int .i64 j, .int .i64 (h : Int), .int .i64 (r : Int), .int .i64 y, .int .i64 s] 30 (0, 0))) := by rw [hwa]; exact heap_alloc_new w _
  have UA : Hid (Upd noBlock w wa) := by rw [hwa]; exact (Upd.refl _ _).alloc _
  have HF : Hid (∀ W, Upd noBlock wa W → W.cell? ⟨w.heap.size, 1, none⟩ = some (.int .i64 (h : Int)) ∧ W.cell? ⟨w.heap.size, 2, none⟩ = some (.int .i64 (r : Int))) := fun W hW => by
    have hg := (hW.block _ (lt_of_block HG.out) id).trans HG.out
    exact ⟨cell_of hg 1, cell_of hg 2⟩
  obtain ⟨z1, z2⟩ := HF.out wa (Upd.refl _ _)
  unfold planV
  go_enter Try.func9, Try.ntmps9
  go_upto_region 1 with fail
  rw [← hwa]
  clear hwa
  go_wp2_with fail
  clear z1 z2
  go_loopw [3] (fun a wr => ∃ k : Nat, a = .int .i64 (k : Int) ∧ Hid (k ≤ N) ∧ Hid (Upd noBlock wa wr)) (fun a _ => N - (intOf a).toNat)
  case atStart => exact ⟨0, rfl, Nat.zero_le _, Upd.refl _ _⟩
  case round =>
    obtain ⟨k, rfl, HK, HU⟩ := hrel
    have hk := HK.out
    have hN := HLE.out
    obtain ⟨z1, z2⟩ := HF.out wr HU.out
    obtain ⟨u1, hu1⟩ : ∃ u, up r (k + 1) = u := ⟨_, rfl⟩
    obtain ⟨u2, hu2⟩ : ∃ u, up r (2 * (k + 1)) = u := ⟨_, rfl⟩
    obtain ⟨A, hA⟩ : ∃ A, (k : Int) + 1 = A := ⟨_, rfl⟩
    obtain ⟨B, hB⟩ : ∃ B, 2 * A = B := ⟨_, rfl⟩
    have C1 : Hid (∀ W : World, Calls Try.prog 16 #[.int .i64 A, .int .i64 (r : Int)] W fun e w' => e = .returned (.int .i64 (u1 : Int)) ∧ W = w') := fun W => by
      have := HUP.out (k + 1) W (by omega); rw [hu1, show ((k + 1 : Nat) : Int) = A by omega] at this; exact this
    have C2 : Hid (∀ W : World, Calls Try.prog 16 #[.int .i64 B, .int .i64 (r : Int)] W fun e w' => e = .returned (.int .i64 (u2 : Int)) ∧ W = w') := fun W => by
      have := HUP.out (2 * (k + 1)) W (by omega); rw [hu2, show ((2 * (k + 1) : Nat) : Int) = B by omega] at this; exact this
    have l1 : u1 ≤ k + 1 := hu1 ▸ HUL.out (k + 1)
    have l2 : u2 ≤ 2 * (k + 1) := hu2 ▸ HUL.out (2 * (k + 1))
    have HM2 : Hid (k < N → u1 + u2 ≤ h) := fun hlt => by have := HMORE.out k hlt; rw [hu1, hu2] at this; exact this
    have HS2 : Hid (k = N → h < u1 + u2) := fun he => by have := HSTOP.out; rw [← he, hu1, hu2] at this; exact this
    clear hu1 hu2
    have HD : Hid (Upd noBlock wa wr → ∀ m, Upd noBlock wa (wr.drewN m)) := fun hU m => hU.drewN m
    have e1 : IntKind.i64.wrap ((k : Int) + 1) = A := by rw [IntKind.wrap_i64]; omega
    have e2 : IntKind.i64.wrap (2 * A) = B := by rw [IntKind.wrap_i64]; omega
    have e3 : IntKind.i64.wrap ((u1 : Int) + (u2 : Int)) = (u1 : Int) + (u2 : Int) := by rw [IntKind.wrap_i64]; omega
    by_cases h0 : k < N
    · have hd : decide ((u1 : Int) + (u2 : Int) ≤ (h : Int)) = true := decide_eq_true (by have := HM2.out h0; omega)
      clear HM2 HS2 HMORE HSTOP
      clear l1 l2 hA hB hN
      go_upto_region 4 with fail
      go_quiet ((go_at_call 16; first | (with_reducible exact quiet_eq (C1.out _)) | (with_reducible exact quiet_eq (C2.out _)) | (trace_state; fail)))
      clear e1 e2 e3
      have hN := HLE.out
      go_wp2_with fail
      go_roundw
      case rel => exact ⟨k + 1, by first | rfl | go_num, by show _ ≤ _; omega, HD.out HU.out _⟩
      case measure => simp [intOf] <;> omega
    · have hkN : k = N := by omega
      have hd : decide ((u1 : Int) + (u2 : Int) ≤ (h : Int)) = false := decide_eq_false (by have := HS2.out hkN; omega)
      subst hkN
      clear HM2 HS2 HMORE HSTOP
      clear l1 l2 hA hB hN
      go_upto_region 4 with fail
      go_quiet ((go_at_call 16; first | (with_reducible exact quiet_eq (C1.out _)) | (with_reducible exact quiet_eq (C2.out _)) | (trace_state; fail)))
      clear e1 e2 e3
      have hN := HLE.out
      go_wp2_with fail
      go_ret
      exact ⟨rfl, UA.out.trans (HD.out HU.out _)⟩
end Go.Proofs.Ytnimgkijodfjkaa
