/- The document's Bytes. -/
import Derived.Test.YtcfilepilgjlaaaDoorKd
import Derived.Deep.DrawnRows
import Derived.BigQuiet
namespace Go.Proofs.YtcfilepilgjlaaaDoor
open Go.RowKit

theorem beZ_snocF : ∀ (k : Nat) (n : Int), beZ (k + 1) n = beZ k (n / 256) ++ [UInt8.ofNat (n % 256).toNat]
  | 0, n => by simp [beZ]
  | k + 1, n => by
    rw [beZ, beZ_snocF k n, beZ, List.cons_append]
    have e : n / 2 ^ (8 * (k + 1)) = n / 256 / 2 ^ (8 * k) := by
      rw [show (8 * (k + 1)) = 8 + 8 * k by omega, Int.pow_add, Int.ediv_ediv_of_nonneg (by decide)]
      rfl
    rw [e]
attribute [local irreducible] beZ valN
attribute [local go_sem ↓] Go.wp_at_zero Go.wp_at_succ

set_option maxRecDepth 20000 in
set_option maxHeartbeats 1600000 in
theorem refBytes_any : ∀ (k : Nat) (n : Nat) (w : World), k ≤ 100 → n < 4611686018427387904 →
    Calls Tryd.prog 39 #[.int .i64 (n : Int), .int .i64 (k : Int)] w fun e w' => e = .returned (.string ⟨(beZ k (n : Int)).toArray⟩) ∧ Upd noBlock w w'
  | 0, n, w, _, _ => by
    go_enter Tryd.func39, Tryd.ntmps39
    go_wp2
    go_ret
    exact ⟨by unfold beZ; rfl, Upd.refl _ _⟩
  | k + 1, n, w, hk, hn => by
    have HI := Lib.hid (fun W => refBytes_any k (n / 256) W (by omega) (by omega))
    obtain ⟨z, hz⟩ : ∃ z : Int, ((k + 1 : Nat) : Int) = z := ⟨_, rfl⟩
    have hz1 : z - 1 = (k : Int) := by omega
    have hz0 : (z == 0) = false := by simp; omega
    have hw1 : IntKind.i64.wrap (k : Int) = (k : Int) := wrap_i64_nat k (by omega)
    have hq : (n : Int).tdiv 256 = ((n / 256 : Nat) : Int) := rfl
    have hr : (n : Int).tmod 256 = ((n % 256 : Nat) : Int) := rfl
    have hwq : IntKind.i64.wrap ((n / 256 : Nat) : Int) = ((n / 256 : Nat) : Int) := wrap_i64_nat _ (by omega)
    have hwr : IntKind.i64.wrap ((n % 256 : Nat) : Int) = ((n % 256 : Nat) : Int) := wrap_i64_nat _ (by omega)
    have hsn : beZ (k + 1) (n : Int) = beZ k ((n / 256 : Nat) : Int) ++ [UInt8.ofNat (n % 256)] := by
      rw [beZ_snocF]; rfl
    have hzl := beZ_length k ((n / 256 : Nat) : Int)
    have hct := cat_bytesK (beZ k ((n / 256 : Nat) : Int)) [UInt8.ofNat (n % 256)]
    rw [hsn, ← hct, hz]
    obtain ⟨q, hqq⟩ : ∃ q : ByteArray, ⟨(beZ k ((n / 256 : Nat) : Int)).toArray⟩ = q := ⟨_, rfl⟩
    have hqz : q.size = k := by rw [← hqq]; exact hzl
    rw [hqq] at HI ⊢
    clear hct hsn hqq hzl hz
    have hm : n % 256 < 256 := Nat.mod_lt _ (by decide)
    have hb := u8_ofNat' (n % 256)
    have hu8 : IntKind.u8.wrap ((n % 256 : Nat) : Int) = ((n % 256 : Nat) : Int) := by rw [IntKind.wrap_u8]; omega
    generalize n % 256 = m at *
    generalize n / 256 = d at *
    have hb2 : ((UInt8.ofNat m).toNat : Int) = (m : Int) := by omega
    generalize UInt8.ofNat m = y at *
    have hcell : ∀ (b : Nat) (W : World), W.cell? ⟨b, 0, none⟩ = some (.int .u8 (m : Int)) → (convert 37 9 (.slice (some ⟨b, 0, none⟩) 1 1)).run Tryd.prog W = .ok (.string ⟨[y].toArray⟩) W := fun b W hc =>
      run_convert_bytes_back W 37 9 5 ⟨b, 0, none⟩ 1 [y] Tryd.underlying37 Tryd.underlying5 Tryd.underlying9 (fun j hj => by
        have : j = 0 := by simpa using hj
        subst this
        rw [add_zero_addr, hc]
        simp only [List.getElem_cons_zero, hb2])
    have hcv : ∀ W : World, (convert 37 9 (.slice (some ⟨W.heap.size, 0, none⟩) 1 1)).run Tryd.prog (W.alloc (.cells #[.int .u8 (m : Int)] 5)) = .ok (.string ⟨[y].toArray⟩) (W.alloc (.cells #[.int .u8 (m : Int)] 5)) := fun W =>
      hcell _ _ (by rw [cell_of (heap_alloc_new W _)]; rfl)
    have hcd : ∀ W : World, (convert 37 9 (.slice (some ⟨W.heap.size, 0, none⟩) 1 1)).run Tryd.prog (W.alloc (.cells #[.int .u8 (m : Int)] 5)).drew = .ok (.string ⟨[y].toArray⟩) (W.alloc (.cells #[.int .u8 (m : Int)] 5)).drew := fun W =>
      hcell _ _ (by show (W.alloc _).cell? _ = _; rw [cell_of (heap_alloc_new W _)]; rfl)
    have HCW : Hid (∀ w1 : World, Upd noBlock (w.drew.alloc (.cells #[.int .u8 (m : Int)] 5)) w1 → (convert 37 9 (.slice (some ⟨w.heap.size, 0, none⟩) 1 1)).run Tryd.prog w1 = .ok (.string ⟨[y].toArray⟩) w1) := fun w1 hu =>
      hcell _ _ (upd_cell hu (by
        have h1 := heap_alloc_new w.drew (.cells #[.int .u8 (m : Int)] 5)
        show (w.drew.alloc _).cell? ⟨w.drew.heap.size, 0, none⟩ = _
        rw [cell_of h1]; rfl))
    have HCX : Hid (∀ w1 : World, Upd noBlock (w.alloc (.cells #[.int .u8 (m : Int)] 5)).drew w1 → (convert 37 9 (.slice (some ⟨w.heap.size, 0, none⟩) 1 1)).run Tryd.prog w1 = .ok (.string ⟨[y].toArray⟩) w1) := fun w1 hu =>
      hcell _ _ (upd_cell hu (by
        have h1 := heap_alloc_new w (.cells #[.int .u8 (m : Int)] 5)
        show (w.alloc _).cell? ⟨w.heap.size, 0, none⟩ = _
        rw [cell_of h1]; rfl))
    clear hcell
    go_enter Tryd.func39, Tryd.ntmps39
    go_wp2_with fail
    go_region_with (go_at_call 39; with_reducible refine (HI.out _).mono ?_; rintro e w1 ⟨rfl, h⟩; have HA := Lib.hid h; (first | have cv := HCW.out _ h | have cv := HCX.out _ h | skip); clear h)
    all_goals
      go_wp2_with fail
      go_ret
      exact ⟨rfl, by first | exact (((Upd.refl _ w).drew).trans HA.out).alloc _ | exact (((Upd.refl _ w).alloc _).drew).trans HA.out | exact (((Upd.refl _ w).drew).alloc _).trans HA.out⟩
theorem refBytesA (k : Nat) (hk : k ≤ 100) (z : Int) (hz : z = (k : Int)) (n : Int) (h0 : 0 ≤ n) (h1 : n < 4611686018427387904) (W : World) :
    Calls Tryd.prog 39 #[.int .i64 n, .int .i64 z] W fun e w' => e = .returned (.string ⟨(beZ k n).toArray⟩) ∧ Upd noBlock W w' := by
  subst hz
  obtain ⟨m, rfl⟩ : ∃ m : Nat, n = (m : Int) := ⟨n.toNat, by omega⟩
  exact refBytes_any k m W hk (by omega)
end Go.Proofs.YtcfilepilgjlaaaDoor
