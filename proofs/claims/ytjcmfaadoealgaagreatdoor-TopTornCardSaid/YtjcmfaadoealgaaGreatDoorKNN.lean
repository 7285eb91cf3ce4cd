/- BchSpare, walked. -/
import Derived.Test.YtjcmfaadoealgaaGreatDoorKGNK
import Derived.DataShut
namespace Go.Proofs.YtjcmfaadoealgaaGreatDoor
open F
open Go.RowKit Pm
set_option linter.unusedVariables false

theorem ofInt_u8 (a : Nat) (ha : a < 256) : (BitVec.ofInt 8 (a : Int)).toNat = a := by
  rw [BitVec.toNat_ofInt]
  show (((a : Int) % ((256 : Nat) : Int))).toNat = a
  omega
theorem wrap_u8_nat (a : Nat) (ha : a < 256) : IntKind.u8.wrap (a : Int) = (a : Int) := by
  show ((a : Int) % 256) = _
  omega
theorem u8_xor_n (a b : Nat) (ha : a < 256) (hb : b < 256) : bits .xor .u8 (a : Int) (b : Int) = ((a ^^^ b : Nat) : Int) := by
  have hx : a ^^^ b < 2 ^ 8 := Nat.xor_lt_two_pow ha hb
  show IntKind.u8.wrap (((BitVec.ofInt 8 (a : Int) ^^^ BitVec.ofInt 8 (b : Int)).toNat : Nat) : Int) = _
  rw [BitVec.toNat_xor, ofInt_u8 a ha, ofInt_u8 b hb]
  exact wrap_u8_nat _ hx
theorem Made.far {w0 w1 w : World} {c t g : Nat} {k : Int} (h : Made w0 c t k) (h1 : Upd noBlock w0 w1) (hg : w0.heap.size ≤ g) (h2 : Upd (oneBlock g) w1 w) : Made w c t k :=
  (((h.bound _ (Nat.le_refl _)).grow h1).keep h2 (fun i hi e => by have e' : i = g := e; omega)).made
end Go.Proofs.YtjcmfaadoealgaaGreatDoor
