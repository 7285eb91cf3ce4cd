/- Walks: the value of a polynomial, for TopRoots. -/
import Derived.Test.YtcmcjojjphhffaaPz
namespace Go.Proofs.Ytcmcjojjphhffaa
open Go.RowKit Pm Gfm

theorem powN_pw (q e : Nat) (he : e ≤ 13) : powN (pw q) (e : Int) = pw (trn ((q : Int) * (e : Int))) := by
  rw [pw_trn]
  have h0 := pw_pos q
  have h1 := pw_lt q
  by_cases h : e = 0
  · subst h
    unfold powN
    rw [if_pos (by rfl)]; rfl
  · unfold powN
    rw [if_neg (by omega), if_neg (by omega)]
    have et : trn (e : Int) = e := by unfold trn; omega
    rw [et, pw_trn, ← npow_pw, pw_lg _ h0 h1, npow_pw]
attribute [local irreducible] Pm.exps pmul mpol evs

set_option maxRecDepth 20000 in
set_option maxHeartbeats 800000 in
theorem value_any (b : Nat) (n : Int) (a : Option Addr) (len cap : Nat) (L : List Int) (q : Nat) (w : World) (h : Ready w b n) (hr : Ints w w.heap.size a len L) (hm : len ≤ maxLen) (hL : ∀ j, j < len → 0 ≤ L.getD j 0 ∧ L.getD j 0 ≤ 13) :
    Calls Try.prog 26 #[.pointer (some ⟨b, 0, none⟩), .slice a len cap, .int .i64 ((pw q : Nat) : Int)] w fun e w' => e = .returned (.int .i64 ((evs q L : Nat) : Int)) ∧ Upd noBlock w w' := by
  have HRD : Hid (∀ W, Upd noBlock w W → Ready W b n) := fun W hu => h.upd hu
  have HI := Lib.hid hr
  have HLL := Lib.hid hL
  have Hlen := Lib.hid hr.1
  have hm9 : len ≤ 9223372036854775807 := by unfold maxLen at hm; omega
  have hq8 := pw_lt q
  have HQ8 := Lib.hid hq8
  have HPW : Hid (∀ e : Nat, e ≤ 13 → powN (low ((pw q : Nat) : Int)) (e : Int) = pw (trn ((q : Int) * (e : Int)))) := fun e he => by rw [low_nat _ hq8]; exact powN_pw q e he
  clear h hr hL hm hq8
  obtain ⟨X, HX⟩ : ∃ X, Hid (pw q = X) := ⟨_, rfl⟩
  rw [HX.out] at HPW
  rw [HX.out]
  go_enter Try.func26, Try.ntmps26
  go_wp2
  go_loopw [7, 8] (fun v i wr => ∃ j : Nat, j ≤ len ∧ i = .int .i64 (j : Int) ∧ v = .int .i64 ((evs q (L.take j) : Nat) : Int) ∧ Hid (Upd noBlock w wr)) (fun _ i _ => len - (intOf i).toNat)
  case atStart => exact ⟨0, Nat.zero_le _, rfl, by rw [List.take_zero]; unfold evs; rfl, Upd.refl _ _⟩
  case round =>
    obtain ⟨j, hj, rfl, rfl, HU⟩ := hrel
    by_cases h0 : j < len
    · obtain ⟨g, off, rfl, _, hc⟩ := (HI.out.grow HU.out (Nat.le_refl _)).cell (by omega)
      have c1 := hc j h0
      have hb := HLL.out j h0
      have HEV := Lib.hid (evs_take q L j (by rw [Hlen.out]; exact h0))
      have hlt := evs_lt q (L.take j)
      generalize L.getD j 0 = z at *
      obtain ⟨z, rfl⟩ := Int.eq_ofNat_of_zero_le hb.1
      have HP := Lib.hid (HPW.out z (by omega))
      generalize evs q (L.take j) = s at *
      have hpl := pw_lt (trn ((q : Int) * (z : Int)))
      generalize pw (trn ((q : Int) * (z : Int))) = y at *
      have hx : bits .xor .i64 (s : Int) (y : Int) = ((s ^^^ y : Nat) : Int) := i64_xor_nat _ _ (by omega) (by omega)
      clear hb hc
      go_wp2_with fail
      refine (pow_ready b n _ _ _ (HRD.out _ HU.out)).mono ?_
      rintro e w2 ⟨rfl, _, hu2⟩
      rw [HP.out]
      have HU2 := Lib.hid (HU.out.trans hu2)
      clear hu2
      go_wp2
      go_roundw
      case rel => exact ⟨j + 1, by omega, by go_num, by rw [HEV.out], HU2⟩
      case measure => simp [intOf]; omega
    · obtain rfl : j = len := by omega
      have ht : L.take j = L := List.take_of_length_le (by rw [Hlen.out]; omega)
      rw [ht]
      clear ht
      go_wp2
      go_ret
      exact ⟨rfl, HU.out⟩
end Go.Proofs.Ytcmcjojjphhffaa
