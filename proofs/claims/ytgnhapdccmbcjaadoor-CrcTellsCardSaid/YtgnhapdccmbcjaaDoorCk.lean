/- Bytes of a text changed in a row: plain. -/
import Derived.Test.YtgnhapdccmbcjaaDoorCf
namespace Go.Proofs.YtgnhapdccmbcjaaDoor
open Go.RowKit Cm

/-- the i-th byte of the change -/
def xb (C i : Nat) : Nat := C / 256 ^ i % 256
/-- was one of the first k bytes of the change another than 0? -/
def chB (C : Nat) : Nat → Bool
  | 0 => false
  | k + 1 => chB C k || !(xb C k == 0)
/-- what the text reads as behind k rounds -/
def chg (l : List UInt8) (C A k j : Nat) : Nat := if A ≤ j ∧ j < A + k then (l.getD j 0).toNat ^^^ xb C (j - A) else (l.getD j 0).toNat
theorem chg_zero (l : List UInt8) (C A j : Nat) : chg l C A 0 j = (l.getD j 0).toNat := by
  unfold chg; rw [if_neg (by omega)]
theorem chg_succ (l : List UInt8) (C A k j : Nat) : chg l C A (k + 1) j = if j = A + k then (l.getD (A + k) 0).toNat ^^^ xb C k else chg l C A k j := by
  unfold chg
  by_cases h : j = A + k
  · subst h
    rw [if_pos rfl, if_pos (by omega), show A + k - A = k by omega]
  · rw [if_neg h]
    have : (A ≤ j ∧ j < A + (k + 1)) ↔ (A ≤ j ∧ j < A + k) := by omega
    simp only [this]
theorem chg_at (l : List UInt8) (C A k : Nat) : chg l C A k (A + k) = (l.getD (A + k) 0).toNat := by
  unfold chg; rw [if_neg (by omega)]
theorem xb_lt (C i : Nat) : xb C i < 256 := Nat.mod_lt _ (by decide)
theorem chg_lt (l : List UInt8) (C A k j : Nat) : chg l C A k j < 256 := by
  unfold chg
  split
  · exact Nat.xor_lt_two_pow (n := 8) (u8_lt _) (xb_lt _ _)
  · exact u8_lt _
/-- the text behind M rounds -/
def chL (l : List UInt8) (C A M : Nat) : List UInt8 := (List.range l.length).map fun j => UInt8.ofNat (chg l C A M j)
theorem chL_length (l : List UInt8) (C A M : Nat) : (chL l C A M).length = l.length := by simp [chL]
theorem chL_get (l : List UInt8) (C A M j : Nat) (h : j < (chL l C A M).length) : (((chL l C A M)[j]).toNat) = chg l C A M j := by
  have := chg_lt l C A M j
  simp only [chL, List.getElem_map, List.getElem_range, UInt8.toNat_ofNat']
  omega
/-- the changed middle -/
def mids (l : List UInt8) (C A M : Nat) : List UInt8 := (List.range M).map fun i => UInt8.ofNat ((l.getD (A + i) 0).toNat ^^^ xb C i)
theorem chL_parts (l : List UInt8) (C A M : Nat) (h : A + M ≤ l.length) : chL l C A M = l.take A ++ mids l C A M ++ l.drop (A + M) := by
  apply List.ext_getElem
  · rw [chL_length]; simp [mids]; omega
  · intro j h1 h2
    rw [chL_length] at h1
    have e : (chL l C A M)[j]'(by rw [chL_length]; exact h1) = UInt8.ofNat (chg l C A M j) := by simp [chL]
    rw [e]
    have eg : l.getD j 0 = l[j] := by rw [List.getD_eq_getElem?_getD, List.getElem?_eq_getElem h1]; rfl
    unfold chg
    by_cases ha : j < A
    · rw [if_neg (by omega), eg, List.getElem_append_left (by simp [mids]; omega), List.getElem_append_left (by simp; omega), List.getElem_take]
      simp
    · by_cases hb : j < A + M
      · rw [if_pos (by omega), List.getElem_append_left (by simp [mids]; omega), List.getElem_append_right (by simp; omega)]
        have em : j - (l.take A).length = j - A := by simp; omega
        simp only [mids, List.getElem_map, List.getElem_range, em]
        rw [show A + (j - A) = j by omega]
      · rw [if_neg (by omega), eg, List.getElem_append_right (by simp [mids]; omega)]
        rw [List.getElem_drop]
        have em : A + M + (j - (l.take A ++ mids l C A M).length) = j := by simp [mids]; omega
        simp only [em]
        simp
theorem text_parts (l : List UInt8) (A M : Nat) : l = l.take A ++ (l.drop A).take M ++ l.drop (A + M) := by
  rw [List.append_assoc, ← List.drop_drop, List.take_append_drop, List.take_append_drop]
theorem xor_self_iff (a x : Nat) : a ^^^ x = a ↔ x = 0 := by
  constructor
  · intro h
    have := congrArg (a ^^^ ·) h
    simp only [← Nat.xor_assoc, Nat.xor_self, Nat.zero_xor] at this
    exact this
  · rintro rfl; simp
theorem chB_false (C k : Nat) : chB C k = false ↔ ∀ i, i < k → xb C i = 0 := by
  induction k with
  | zero => simp [chB]
  | succ k ih =>
    simp only [chB, Bool.or_eq_false_iff, ih, Bool.not_eq_false', beq_iff_eq]
    constructor
    · rintro ⟨h1, h2⟩ i hi
      by_cases e : i = k
      · subst e; exact h2
      · exact h1 i (by omega)
    · intro h
      exact ⟨fun i hi => h i (by omega), h k (by omega)⟩
theorem mids_same (l : List UInt8) (C A M : Nat) (h : A + M ≤ l.length) : (l.drop A).take M = mids l C A M ↔ chB C M = false := by
  rw [chB_false]
  have hl : ((l.drop A).take M).length = M := by simp; omega
  have eg : ∀ i, i < M → ((l.drop A).take M)[i]? = some (l.getD (A + i) 0) := fun i hi => by
    rw [List.getElem?_take, if_pos hi, List.getElem?_drop, List.getD_eq_getElem?_getD, List.getElem?_eq_getElem (by omega)]; rfl
  have em : ∀ i, i < M → (mids l C A M)[i]? = some (UInt8.ofNat ((l.getD (A + i) 0).toNat ^^^ xb C i)) := fun i hi => by
    simp [mids, hi]
  have hx : ∀ i, (l.getD (A + i) 0).toNat ^^^ xb C i < 256 := fun i => Nat.xor_lt_two_pow (n := 8) (u8_lt _) (xb_lt _ _)
  constructor
  · intro e i hi
    have h1 := eg i hi
    rw [e, em i hi] at h1
    have h2 := congrArg UInt8.toNat (Option.some.inj h1)
    rw [UInt8.toNat_ofNat', Nat.mod_eq_of_lt (hx i)] at h2
    exact (xor_self_iff _ _).1 h2
  · intro h0
    apply List.ext_getElem?
    intro i
    by_cases hi : i < M
    · rw [eg i hi, em i hi, h0 i hi]
      simp
    · rw [List.getElem?_eq_none (by omega), List.getElem?_eq_none (by simp [mids]; omega)]
/-- a sealed text that was changed in up to four bytes is sealed just if it wasn't -/
theorem chL_yes (s : List UInt8) (C A M : Nat) (h : A + M ≤ (sealed s).length) (hc : chB C M = false) : chL (sealed s) C A M = sealed s := by
  rw [chL_parts _ _ _ _ h, ← (mids_same _ C A M h).2 hc, ← text_parts]
theorem chL_no (s : List UInt8) (C A M : Nat) (h : A + M ≤ (sealed s).length) (h4 : M ≤ 4) (hc : chB C M = true) (t : List UInt8) : chL (sealed s) C A M ≠ sealed t := by
  intro e
  have hne : ¬ ((sealed s).drop A).take M = mids (sealed s) C A M := fun e => by
    have := (mids_same _ C A M h).1 e
    rw [hc] at this; cases this
  have hl : (((sealed s).drop A).take M).length = (mids (sealed s) C A M).length := by simp [mids]; omega
  refine hne ((tells s ((sealed s).take A) _ (mids (sealed s) C A M) ((sealed s).drop (A + M)) (text_parts _ A M) hl (by simp; omega) t (slb (ext 0 t)) ?_ rfl).1 rfl)
  rw [← chL_parts _ _ _ _ h, e]; rfl
end Go.Proofs.YtgnhapdccmbcjaaDoor
