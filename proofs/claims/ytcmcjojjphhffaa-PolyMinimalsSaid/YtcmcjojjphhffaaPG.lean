/- The document's elimination: what its rounds keep. Plain. -/
import Derived.Test.YtcmcjojjphhffaaPF
import Derived.Test.YtcmcjojjphhffaaPz
namespace Go.Proofs.Ytcmcjojjphhffaa
open Pm Gfm

theorem ech_ins (R : List Nat) (v : Nat) (h : Ech R) (hv : v ≠ 0) (hr : ∀ x ∈ R, v.testBit x.log2 = false) : Ech (ins R (posn R v) v) := by
  induction R with
  | nil => exact ⟨fun x hx => by have : x = v := by simpa [ins, posn] using hx
                                 rw [this]; exact hv, by simp [ins, posn]⟩
  | cons x l ih =>
    have hx0 := h.1 x List.mem_cons_self
    have hne : v.log2 ≠ x.log2 := fun e => by
      have h1 := hr x List.mem_cons_self
      rw [← e, lead_bit v hv] at h1
      cases h1
    by_cases hlt : v < x
    · have h1 : v.log2 < x.log2 := by
        rcases Nat.lt_or_ge v.log2 x.log2 with h2 | h2
        · exact h2
        · have h3 : x.log2 < v.log2 := by omega
          have h4 : x < 2 ^ v.log2 := Nat.lt_of_lt_of_le Nat.lt_log2_self (Nat.pow_le_pow_right (by omega) h3)
          have h5 := Nat.log2_self_le hv
          omega
      have ih' := ih (ech_tail h) (fun y hy => hr y (List.mem_cons_of_mem _ hy))
      have e : ins (x :: l) (posn (x :: l) v) v = x :: ins l (posn l v) v := by
        show ins (x :: l) (if v < x then posn l v + 1 else 0) v = _
        rw [if_pos hlt]; rfl
      rw [e]
      refine ⟨fun y hy => ?_, List.pairwise_cons.2 ⟨fun y hy => ?_, ih'.2⟩⟩
      · rcases List.mem_cons.1 hy with rfl | hy
        · exact hx0
        · exact ih'.1 y hy
      · simp only [ins, List.mem_append, List.mem_singleton] at hy
        rcases hy with (hy | rfl) | hy
        · exact (List.pairwise_cons.1 h.2).1 y (List.mem_of_mem_take hy)
        · exact h1
        · exact (List.pairwise_cons.1 h.2).1 y (List.mem_of_mem_drop hy)
    · have h1 : x.log2 < v.log2 := by
        rcases Nat.lt_or_ge x.log2 v.log2 with h2 | h2
        · exact h2
        · have h3 : v.log2 < x.log2 := by omega
          have h4 : v < 2 ^ x.log2 := Nat.lt_of_lt_of_le Nat.lt_log2_self (Nat.pow_le_pow_right (by omega) h3)
          have h5 := Nat.log2_self_le hx0
          omega
      have e : ins (x :: l) (posn (x :: l) v) v = v :: x :: l := by
        show ins (x :: l) (if v < x then posn l v + 1 else 0) v = _
        rw [if_neg hlt]; rfl
      rw [e]
      refine ⟨fun y hy => ?_, List.pairwise_cons.2 ⟨fun y hy => ?_, h.2⟩⟩
      · rcases List.mem_cons.1 hy with rfl | hy
        · exact hv
        · exact h.1 y hy
      · rcases List.mem_cons.1 hy with rfl | hy
        · exact h1
        · have := (List.pairwise_cons.1 h.2).1 y hy
          omega
theorem rd_succ (R M : List Nat) (v m k : Nat) : rd R M v m (k + 1) = if (rd R M v m k).1 ^^^ R.getD k 0 < (rd R M v m k).1 then ((rd R M v m k).1 ^^^ R.getD k 0, (rd R M v m k).2 ^^^ M.getD k 0) else rd R M v m k := rfl
theorem getD_mem {l : List Nat} {k : Nat} (h : k < l.length) : l.getD k 0 ∈ l ∧ l.getD k 0 = l[k] := by
  have e : l.getD k 0 = l[k] := by rw [List.getD_eq_getElem?_getD, List.getElem?_eq_getElem h]; rfl
  exact ⟨by rw [e]; exact List.getElem_mem h, e⟩
theorem rd_spn (R M : List Nat) (v m k : Nat) (hk : k ≤ R.length) : Spn R ((rd R M v m k).1 ^^^ v) := by
  induction k with
  | zero => show Spn R (v ^^^ v); rw [Nat.xor_self]; exact spn_zero R
  | succ k ih =>
    have ih' := ih (by omega)
    rw [rd_succ]
    split
    · have h1 := spn_xor R _ _ ih' (spn_mem R _ (getD_mem (k := k) (by omega)).1)
      show Spn R (((rd R M v m k).1 ^^^ R.getD k 0) ^^^ v)
      rwa [Nat.xor_assoc, Nat.xor_comm v, ← Nat.xor_assoc] at h1
    · exact ih'
theorem rd_bits (R M : List Nat) (v m k : Nat) (h : Ech R) (hk : k ≤ R.length) : ∀ j, j < k → (rd R M v m k).1.testBit (R.getD j 0).log2 = false := by
  induction k with
  | zero => intro j hj; omega
  | succ k ih =>
    have ih' := ih (by omega)
    have hm := getD_mem (l := R) (k := k) (by omega)
    have h0 := h.1 _ hm.1
    have hx := xor_less (rd R M v m k).1 (R.getD k 0) h0
    intro j hj
    rw [rd_succ]
    split
    · rename_i hlt
      have hb := hx.1 hlt
      show ((rd R M v m k).1 ^^^ R.getD k 0).testBit _ = false
      rw [Nat.testBit_xor]
      rcases Nat.lt_or_ge j k with h1 | h1
      · have hlg : (R.getD k 0).log2 < (R.getD j 0).log2 := by
          rw [hm.2, (getD_mem (l := R) (k := j) (by omega)).2]
          exact List.pairwise_iff_getElem.1 h.2 j k (by omega) (by omega) h1
        rw [ih' j h1, over_bit _ _ hlg]; rfl
      · obtain rfl : j = k := by omega
        rw [hb, lead_bit _ h0]; rfl
    · rename_i hlt
      rcases Nat.lt_or_ge j k with h1 | h1
      · exact ih' j h1
      · obtain rfl : j = k := by omega
        cases hv : (rd R M v m j).1.testBit (R.getD j 0).log2 with
        | false => rfl
        | true => exact absurd (hx.2 hv) hlt
end Go.Proofs.Ytcmcjojjphhffaa
