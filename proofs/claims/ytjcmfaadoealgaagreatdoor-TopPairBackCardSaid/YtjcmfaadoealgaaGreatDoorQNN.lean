/- BchSpare, walked. -/
import Derived.Test.YtjcmfaadoealgaaGreatDoorQGNK
import Derived.DataShut
namespace Go.Proofs.YtjcmfaadoealgaaGreatDoor
open F
open Go.RowKit Pm
set_option linter.unusedVariables false

theorem ofInt_u8 (a : Nat) (ha : a < 256) : (BitVec.ofInt 8 (a : Int)).toNat = a := by
  rw [BitVec.toNat_ofInt]
  show (((a : Int) % ((256 : Nat) : Int))).toNat = a
  omega
theorem wrap_u8_nat (a : Nat) (ha : a < 256) : IntKind.u8.wrap (a : Int) = (a : Int) := by
  show ((a : Int) % 256) = _
  omega
theorem u8_xor_n (a b : Nat) (ha : a < 256) (hb : b < 256) : bits .xor .u8 (a : Int) (b : Int) = ((a ^^^ b : Nat) : Int) := by
  have hx : a ^^^ b < 2 ^ 8 := Nat.xor_lt_two_pow ha hb
  show IntKind.u8.wrap (((BitVec.ofInt 8 (a : Int) ^^^ BitVec.ofInt 8 (b : Int)).toNat : Nat) : Int) = _
  rw [BitVec.toNat_xor, ofInt_u8 a ha, ofInt_u8 b hb]
  exact wrap_u8_nat _ hx
theorem Made.far {w0 w1 w : World} {c t g : Nat} {k : Int} (h : Made w0 c t k) (h1 : Upd noBlock w0 w1) (hg : w0.heap.size ≤ g) (h2 : Upd (oneBlock g) w1 w) : Made w c t k :=
  (((h.bound _ (Nat.le_refl _)).grow h1).keep h2 (fun i hi e => by have e' : i = g := e; omega)).made
theorem word_spared (t : Nat) (h1 : 1 ≤ t) (h8 : t ≤ 8) (data q : ByteArray) (hq : q.size = (13 * t + 7) / 8) (hb : ∀ j, j < 13 * t → dbit q.data.toList j = dbit (parT t data.data.toList) j) : wordOf t data q = data.data.toList ++ parT t data.data.toList := by
  unfold wordOf
  congr 1
  refine bytes_ext (by rw [textL_length, parT_length, hq]) fun j _ => ?_
  rw [dbit_textFrom q t h8 hq]
  by_cases hj : j < 13 * t
  · rw [decide_eq_true hj, Bool.true_and, hb j hj]
  · rw [decide_eq_false hj, Bool.false_and, parT_spare t h1 h8 _ j (by omega)]
end Go.Proofs.YtjcmfaadoealgaaGreatDoor
