import Derived.Test.YtoledgpcgjdjjaaGreatDoorQGNK
import Derived.Test.YtoledgpcgjdjjaaGreatDoorQGIi
import Derived.Test.YtoledgpcgjdjjaaGreatDoorQGNC
import Derived.Test.YtoledgpcgjdjjaaGreatDoorQGHu
import Derived.DataShut
/- Decode: its answer as one value; what is of another length; no code at all. -/
namespace Go.Proofs.YtoledgpcgjdjjaaGreatDoor
open F
open Go.RowKit Pm
set_option linter.unusedVariables false

open Classical in
noncomputable def decA (t k : Nat) (data par : ByteArray) : Option (List Nat) :=
  if h : ∃ ps, Good t (8 * k + 13 * t) (restOf t data par) ps then some (Classical.choose h) else none
theorem decA_eq {t k : Nat} {data par : ByteArray} {a : Option (List Nat)} (h : ∀ ps, Good t (8 * k + 13 * t) (restOf t data par) ps ↔ a = some ps) : a = decA t k data par := by
  unfold decA
  by_cases hx : ∃ ps, Good t (8 * k + 13 * t) (restOf t data par) ps
  · rw [dif_pos hx]; exact (h _).1 (Classical.choose_spec hx)
  · rw [dif_neg hx]
    cases a with
    | none => rfl
    | some ps => exact absurd ⟨ps, (h ps).2 rfl⟩ hx
theorem decA_some {t k : Nat} {data par : ByteArray} {ps : List Nat} (h : decA t k data par = some ps) : Good t (8 * k + 13 * t) (restOf t data par) ps := by
  unfold decA at h
  by_cases hx : ∃ ps, Good t (8 * k + 13 * t) (restOf t data par) ps
  · rw [dif_pos hx] at h
    rw [← Option.some.inj h]; exact Classical.choose_spec hx
  · rw [dif_neg hx] at h; cases h
theorem decA_of {t k : Nat} {data par : ByteArray} {ps : List Nat} (hN : 8 * k + 13 * t ≤ 8191) (h : Good t (8 * k + 13 * t) (restOf t data par) ps) : decA t k data par = some ps := by
  unfold decA
  have hx : ∃ ps, Good t (8 * k + 13 * t) (restOf t data par) ps := ⟨ps, h⟩
  rw [dif_pos hx, good_unique hN (Classical.choose_spec hx) h]
theorem decode_eq (c t k : Nat) (data par : ByteArray) (w : World) (h : CodeP w c t (k : Int)) (ht1 : 1 ≤ t) (ht8 : t ≤ 8) (hk1 : 1 ≤ k) (hk : k ≤ 256) (hd : data.size = k) (hp : par.size = (13 * t + 7) / 8) :
    Calls Tryz.prog 123 #[.pointer (some ⟨c, 0, none⟩), .string data, .string par] w fun e w' => e = decAns t k data par (decA t k data par) ∧ Made w' c t (k : Int) ∧ Upd (oneBlock c) w w' :=
  (decode_any c t k data par w h ht1 ht8 hk1 hk hd hp).mono fun e w' ⟨a, ha, he, hm, hu⟩ => ⟨by rw [he, decA_eq ha], hm, hu⟩
end Go.Proofs.YtoledgpcgjdjjaaGreatDoor

/- BchSpare, walked. -/
namespace Go.Proofs.YtoledgpcgjdjjaaGreatDoor
open F
open Go.RowKit Pm
set_option linter.unusedVariables false

theorem ofInt_u8 (a : Nat) (ha : a < 256) : (BitVec.ofInt 8 (a : Int)).toNat = a := by
  rw [BitVec.toNat_ofInt]
  show (((a : Int) % ((256 : Nat) : Int))).toNat = a
  omega
theorem wrap_u8_nat (a : Nat) (ha : a < 256) : IntKind.u8.wrap (a : Int) = (a : Int) := by
  show ((a : Int) % 256) = _
  omega
theorem u8_xor_n (a b : Nat) (ha : a < 256) (hb : b < 256) : bits .xor .u8 (a : Int) (b : Int) = ((a ^^^ b : Nat) : Int) := by
  have hx : a ^^^ b < 2 ^ 8 := Nat.xor_lt_two_pow ha hb
  show IntKind.u8.wrap (((BitVec.ofInt 8 (a : Int) ^^^ BitVec.ofInt 8 (b : Int)).toNat : Nat) : Int) = _
  rw [BitVec.toNat_xor, ofInt_u8 a ha, ofInt_u8 b hb]
  exact wrap_u8_nat _ hx
theorem Made.far {w0 w1 w : World} {c t g : Nat} {k : Int} (h : Made w0 c t k) (h1 : Upd noBlock w0 w1) (hg : w0.heap.size ≤ g) (h2 : Upd (oneBlock g) w1 w) : Made w c t k :=
  (((h.bound _ (Nat.le_refl _)).grow h1).keep h2 (fun i hi e => by have e' : i = g := e; omega)).made
theorem word_spared (t : Nat) (h1 : 1 ≤ t) (h8 : t ≤ 8) (data q : ByteArray) (hq : q.size = (13 * t + 7) / 8) (hb : ∀ j, j < 13 * t → dbit q.data.toList j = dbit (parT t data.data.toList) j) : wordOf t data q = data.data.toList ++ parT t data.data.toList := by
  unfold wordOf
  congr 1
  refine bytes_ext (by rw [textL_length, parT_length, hq]) fun j _ => ?_
  rw [dbit_textFrom q t h8 hq]
  by_cases hj : j < 13 * t
  · rw [decide_eq_true hj, Bool.true_and, hb j hj]
  · rw [decide_eq_false hj, Bool.false_and, parT_spare t h1 h8 _ j (by omega)]
end Go.Proofs.YtoledgpcgjdjjaaGreatDoor
