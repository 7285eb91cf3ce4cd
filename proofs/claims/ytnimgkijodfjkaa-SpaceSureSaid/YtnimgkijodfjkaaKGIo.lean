import Derived.Test.YtnimgkijodfjkaaKIn
import Derived.Test.YtnimgkijodfjkaaKOw
/- The document's bits of a text, and the text of bits. -/
namespace Go.Proofs.Ytnimgkijodfjkaa
open Go.RowKit Pm

end Go.Proofs.Ytnimgkijodfjkaa

/- The document's text of bits. -/
namespace Go.Proofs.Ytnimgkijodfjkaa
open Go.RowKit Pm

theorem shr_128 : ∀ m : Fin 8, (128 : Int) / 2 ^ m.val = ((2 ^ (7 - m.val) : Nat) : Int) := by decide
theorem or_256 : ∀ (a b : Fin 256), bits .or .u8 (a.val : Int) (b.val : Int) = ((a.val ||| b.val : Nat) : Int) := by decide +kernel
theorem text_store {w3 : World} {B : Nat} {v : Value} {x : Nat → Bool} {k q m : Nat} (h : OwnB w3 B v (txt1 x k)) (hq : k / 8 = q) (hm : k % 8 = m) (hx : x k = true) :
    ∃ g cap o y, v = .slice (some ⟨g, 0, none⟩) (q + 1) cap ∧ B ≤ g ∧ w3.cell? ⟨g, q, none⟩ = some (.int .u8 ((o : Nat) : Int)) ∧ (∀ i, w3.frozen? ⟨g, i, none⟩ = false) ∧ (128 : Int) / 2 ^ m = ((y : Nat) : Int) ∧ y < 256 ∧
      bits .or .u8 ((o : Nat) : Int) ((y : Nat) : Int) = ((o ||| y : Nat) : Int) ∧
      (∀ w4 : World, w4.heap[g]? = w3.heap[g]? → OwnB (w4.setCell ⟨g, q, none⟩ (.int .u8 ((o ||| y : Nat) : Int))) B v (txt x (k + 1))) := by
  have hl : (txt1 x k).length = q + 1 := by rw [txt1_length, hq]
  obtain ⟨g, cap, h1, h2, _, h4, h5, h6⟩ := h.cells (by omega)
  rw [hl] at h1
  have ho : ((txt1 x k).getD q 0).toNat < 256 := ((txt1 x k).getD q 0).toNat_lt
  have hy : 2 ^ (7 - m) < 2 ^ 8 := Nat.pow_lt_pow_right (by omega) (by omega)
  refine ⟨g, cap, ((txt1 x k).getD q 0).toNat, 2 ^ (7 - m), h1, h2, h4 q (by omega), h5, ?_, hy, ?_, fun w4 hw => ?_⟩
  · exact shr_128 ⟨m, by omega⟩
  · exact or_256 ⟨_, ho⟩ ⟨_, hy⟩
  · have := h6 w4 q (UInt8.ofNat (((txt1 x k).getD q 0).toNat ||| 2 ^ (7 - m))) hw
    have e : (UInt8.ofNat (((txt1 x k).getD q 0).toNat ||| 2 ^ (7 - m))).toNat = ((txt1 x k).getD q 0).toNat ||| 2 ^ (7 - m) := by
      rw [UInt8.toNat_ofNat']
      exact Nat.mod_eq_of_lt (Nat.or_lt_two_pow (n := 8) ho hy)
    rw [e] at this
    rw [← txt1_on x k hx, hq, hm]
    exact this

end Go.Proofs.Ytnimgkijodfjkaa
