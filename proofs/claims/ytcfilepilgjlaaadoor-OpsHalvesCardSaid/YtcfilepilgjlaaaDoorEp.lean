/- Read. -/
import Derived.Test.YtcfilepilgjlaaaDoorEm
namespace Go.Proofs.YtcfilepilgjlaaaDoor
open Go.RowKit

/-- the bytes that are read -/
def rdL (size o n : Int) (Ss : List ByteArray) : List UInt8 :=
  if 0 ≤ o ∧ o < size ∧ 1 ≤ n then bytesAt (spF Ss) (o % 64).toNat (min n (size - o)).toNat else []
theorem R8.textAll {w : World} {g n : Nat} {f : Nat → UInt8} (h : R8 w g n f) : (convert 37 9 (.slice (some ⟨g, 0, none⟩) n n)).run Tryd.prog w = .ok (.string ⟨(bytesAt f 0 n).toArray⟩) w :=
  h.text 0 n n (by omega) _ _ Tryd.underlying37 Tryd.underlying5 Tryd.underlying9
theorem laid_all (f : Nat → UInt8) (s : List UInt8) (n : Nat) (hs : s.length = n) : bytesAt (laid f 0 s n) 0 n = s := by
  apply List.ext_getElem
  · rw [bytesAt_length, hs]
  · intro i h1 h2
    rw [bytesAt_get]
    unfold laid
    rw [bytesAt_length] at h1
    rw [if_pos ⟨by omega, by omega⟩, List.getD_eq_getElem?_getD, List.getElem?_eq_getElem (by omega)]
    simp
set_option maxRecDepth 100000 in
set_option maxHeartbeats 1600000 in
theorem Read_any (size o n : Int) (a : Option Addr) (n0 c B : Nat) (Ss : List ByteArray) (w : World) (hr : Strs w B a n0 Ss) (hB : B ≤ w.heap.size) (hn : n0 ≤ c) (hs : size ≤ 8192) (hn2 : n ≤ 8192) (ho : -8192 ≤ o) (ho2 : o ≤ 16384) :
    Calls Tryd.prog 14 #[.int .i64 size, .int .i64 o, .int .i64 n, .slice a n0 c] w fun e w' => e = .returned (.string ⟨(rdL size o n Ss).toArray⟩) ∧ Upd noBlock w w' := by
  by_cases h : 0 ≤ o ∧ o < size ∧ 1 ≤ n
  · obtain ⟨h1, h2, h3⟩ := h
    have e0 : rdL size o n Ss = bytesAt (spF Ss) (o % 64).toNat (min n (size - o)).toNat := if_pos ⟨h1, h2, h3⟩
    rw [e0]
    obtain ⟨N, hN⟩ : ∃ N, (min n (size - o)).toNat = N := ⟨_, rfl⟩
    obtain ⟨r, hr'⟩ : ∃ r, (o % 64).toNat = r := ⟨_, rfl⟩
    obtain ⟨F, hF⟩ : ∃ F, o / 64 = F := ⟨_, rfl⟩
    obtain ⟨Pn, hP⟩ : ∃ Pn, pcs (o + (N : Int)) = Pn := ⟨_, rfl⟩
    have hP' := pcs_eq (o + (N : Int))
    obtain ⟨M, hM⟩ : ∃ M, (Pn - F).toNat = M := ⟨_, rfl⟩
    have hmin : min n (size - o) = (N : Int) := by omega
    have hN0 : 0 < N := by omega
    have hN1 : N ≤ 8192 := by omega
    have hPM : Pn - F = (M : Int) := by omega
    have hM1 : 1 ≤ M := by omega
    have hM2 : M ≤ 256 := by omega
    have hrN : r + N ≤ M * 64 := by omega
    have hFP : F < Pn := by omega
    have hF0 : 0 ≤ F := by omega
    have hPn : Pn ≤ 1000 := by omega
    have hrm : o.tmod 64 = (r : Int) := by rw [Int.tmod_eq_emod_of_nonneg h1]; omega
    have HSP : Hid (∀ w, Calls Tryd.prog 10 #[.int .i64 o, .int .i64 (N : Int)] w fun e w' => e = .returned (.tuple #[.int .i64 F, .int .i64 Pn]) ∧ w = w') := fun w => by
      have h := Span_any o (N : Int) w
      rw [show spanA o (N : Int) = (F, Pn) by unfold spanA; rw [if_pos ⟨h1, by omega, by omega, by omega⟩, hF, hP]] at h
      exact h.mono fun e w' h => ⟨h.1, h.2.symm⟩
    have hmk := make8 N (N : Int) rfl (by omega)
    have HSTR := Lib.hid hr
    have HBB := Lib.hid hB
    rw [hN, hr']
    have hrM : r < M * 64 := by omega
    have hrM2 : N ≤ M * 64 - r := by omega
    clear e0 hN hr' hF hP hP' hM hr hB hrN
    go_enter Tryd.func14, Tryd.ntmps14
    have HAL : Hid (∀ W, Upd noBlock w W → Upd noBlock w (W.alloc (.cells (madeCells #[.int .u8 0] N) 5))) := fun W hu => hu.alloc _
    obtain ⟨wa, hwa⟩ : ∃ W : World, W = w.alloc (.cells (madeCells #[.int .u8 0] N) 5) := ⟨_, rfl⟩
    have R0 : Hid (R8 wa w.heap.size N (fun _ => 0)) := by rw [hwa]; exact R8.made w N
    have U0 : Hid (Upd noBlock w wa) := by rw [hwa]; exact (Upd.refl _ _).alloc _
    have HSA := Lib.hid (spread_any a n0 c B M Ss wa (HSTR.out.grow U0.out HBB.out) (Nat.le_trans HBB.out U0.out.size) hn hM1 (by omega))
    have HWA := Lib.hid hwa
    clear hwa
    go_wp2_with (first
      | (go_at_call 10; (with_reducible refine (HSP.out _).mono ?_); rintro e w1 ⟨rfl, rfl⟩; have hG := HWA.out)
      | (go_at_call 15; rw [← HWA.out]; (with_reducible refine HSA.out.mono ?_); rintro e w2 ⟨g, rfl, hg, rg, u2⟩; have hslo := (fun w' => slice8lo w' g 0 (M * 64) (M * 64) r (o.tmod 64) hrm (by omega) (by omega)); (obtain ⟨w3, hrun, r3, u3⟩ := (R0.out.grow u2).copyB rg 0 N N r (M * 64 - r) (M * 64 - r) 3 (by omega) (by omega)); rw [show min (M * 64 - r) N = N by omega] at hrun r3; have hcv := r3.textAll; rw [laid_all _ _ _ (bytesAt_length _ _ _)] at hcv; have U3 := Lib.hid ((U0.out.trans u2).step u3 (fun i hi e => by unfold oneBlock at e; omega)); clear u2 u3 r3 rg))
    go_ret
    exact ⟨rfl, U3.out⟩
  · have e0 : rdL size o n Ss = [] := if_neg h
    rw [e0]
    have hcase : o < 0 ∨ (0 ≤ o ∧ size ≤ o) ∨ (0 ≤ o ∧ o < size ∧ n < 1) := by omega
    clear e0 h hr
    rcases hcase with h1 | ⟨h1, h2⟩ | ⟨h1, h2, h3⟩
    all_goals
      go_enter Tryd.func14, Tryd.ntmps14
      go_wp2
      go_ret
      exact ⟨rfl, Upd.refl _ _⟩
end Go.Proofs.YtcfilepilgjlaaaDoor
