/- unpack. -/
import Derived.Test.YtcfilepilgjlaaaDoorZb
import Derived.ScopeJumps
import Derived.WalkMore
import Derived.Tactics2
import Derived.StillTactics
namespace Go.Proofs.YtcfilepilgjlaaaDoor
open Go.RowKit

/-- the text that tokens stand for, behind a text, or the error: 4 a token that isn't whole or begins too early, 2 too long -/
def unp : Nat → List UInt8 → List UInt8 → Nat → List UInt8 × Int
  | 0, _, t, _ => (t, 0)
  | _ + 1, [], t, _ => (t, 0)
  | f + 1, c :: r, t, most =>
    if c.toNat < 128 then
      if r.length < c.toNat + 1 then ([], 4) else
      if most < t.length + (c.toNat + 1) then ([], 2) else unp f (r.drop (c.toNat + 1)) (t ++ r.take (c.toNat + 1)) most
    else
      if r.length < 2 then ([], 4) else
      if t.length < (r.getD 0 0).toNat + 256 * (r.getD 1 0).toNat + 1 then ([], 4) else
      if most < t.length + (c.toNat - 125) then ([], 2) else
        unp f (r.drop 2) (dup t (t.length - ((r.getD 0 0).toNat + 256 * (r.getD 1 0).toNat + 1)) (c.toNat - 125)) most
theorem unp_fuel : ∀ (f : Nat) (l t : List UInt8) (most : Nat), l.length ≤ f → unp f l t most = unp l.length l t most
  | 0, [], t, most, _ => rfl
  | f + 1, [], t, most, _ => by cases f <;> rfl
  | f + 1, c :: r, t, most, h => by
    have hr : r.length ≤ f := by simpa using h
    have e1 : ∀ k t', unp f (r.drop k) t' most = unp r.length (r.drop k) t' most := fun k t' => by
      rw [unp_fuel f (r.drop k) t' most (by rw [List.length_drop]; omega)]
      by_cases hf : r.length ≤ f ∧ r.length = f
      · rw [hf.2, unp_fuel f (r.drop k) t' most (by rw [List.length_drop]; omega)]
      · have : r.length < f := by omega
        rw [unp_fuel r.length (r.drop k) t' most (by rw [List.length_drop]; omega)]
    show unp (f + 1) (c :: r) t most = unp (r.length + 1) (c :: r) t most
    simp only [unp, e1]
termination_by f => f
decreasing_by all_goals omega

section
variable {P : Program}
theorem scope_jumps_two {a : Act} {w : World} {Q : Exit → Act → World → Prop} {c rest : Code} (l : Nat) (J : Act → World → Prop) (μ : Act → World → Nat) (hf : findLabel c l = some (Code.skip.seq rest))
    (pass : ∀ a w, J a w → rest.wp P (Exit.jump l (fun a' w' => J a' w' ∧ μ a' w' < μ a w) Q) a w)
    (first : (∀ a w, J a w → rest.wp P (Exit.jump l J Q) a w) → c.wp P (Exit.jump l J Q) a w) : (Code.scope c).wp P Q a w :=
  wp_scope_jumps l J μ hf (first fun a w hJ b k cs => by
    obtain ⟨e, a', w', hq, harr⟩ := pass a w hJ b k cs
    refine ⟨e, a', w', ?_, harr⟩
    cases e <;> first | exact hq | exact ⟨hq.1, hq.2.1⟩) (fun a w hJ => wp_seq (wp_skip (pass a w hJ)))
end
/-- what holds at the label -/
def Jz (most : Nat) (w : World) (R : List UInt8 × Int) (l : List UInt8) (t : List UInt8) (v : Value) (wr : World) : Prop :=
  unp l.length l t most = R ∧ OwnB wr w.heap.size v t ∧ t.length ≤ most ∧ l.length ≤ maxLen ∧ Upd noBlock w wr

theorem ix_str (l : List UInt8) (i : Nat) (c : UInt8) (h : l[i]? = some c) (w : World) : (Instr.index 9 (.string ⟨l.toArray⟩) (.int .i64 (i : Int))).run Tryd.prog w = .ok (.int .u8 (c.toNat : Int)) w := by
  obtain ⟨hi, e⟩ := List.getElem?_eq_some_iff.1 h
  rw [run_index_string w 9 _ .i64 _ Tryd.underlying9, dif_pos ⟨by omega, by show (i : Int) < ((l.length : Nat) : Int); omega⟩]
  subst e
  rfl
theorem sl_hi_str (l : List UInt8) (n : Nat) (h : n ≤ l.length) (w : World) : (Instr.sliceAt 9 (.string ⟨l.toArray⟩) none (some (.int .i64 (n : Int))) none).run Tryd.prog w = .ok (.string ⟨(l.take n).toArray⟩) w := by
  rw [run_sliceAt_string w 9 _ _ _ _ Tryd.underlying9, run_slice_string_to_if w 9 _ _ _ Tryd.underlying9, if_pos ⟨by omega, by show (n : Int) ≤ ((l.length : Nat) : Int); omega⟩]
  have e : (ByteArray.mk l.toArray).extract 0 (n : Int).toNat = ⟨(l.take n).toArray⟩ := by
    apply ByteArray.ext; apply Array.ext'; simp
  rw [e]
theorem sl_lo_str (l : List UInt8) (n : Nat) (h : n ≤ l.length) (w : World) : (Instr.sliceAt 9 (.string ⟨l.toArray⟩) (some (.int .i64 (n : Int))) none none).run Tryd.prog w = .ok (.string ⟨(l.drop n).toArray⟩) w := by
  rw [run_sliceAt_string w 9 _ _ _ _ Tryd.underlying9, run_slice_string_from_if w 9 _ _ _ Tryd.underlying9, if_pos ⟨by omega, by show (n : Int) ≤ ((l.length : Nat) : Int); omega⟩]
  have e : (ByteArray.mk l.toArray).extract (n : Int).toNat (ByteArray.mk l.toArray).size = ⟨(l.drop n).toArray⟩ := by
    apply ByteArray.ext; apply Array.ext'
    have : (ByteArray.mk l.toArray).size = l.length := rfl
    rw [this]; simp
    exact List.take_of_length_le (by simp)
  rw [e]
theorem sz_str (l : List UInt8) : (ByteArray.mk l.toArray).size = l.length := rfl
theorem emp_strZ (l : List UInt8) : (ByteArray.mk l.toArray).toList.isEmpty = l.isEmpty := by
  rw [ByteArray.toList_eq]
theorem at_str (l : List UInt8) (i : Nat) (c : UInt8) (h : l[i]? = some c) (hi : i < (ByteArray.mk l.toArray).size) : ((ByteArray.mk l.toArray)[i]'hi).toNat = c.toNat := by
  obtain ⟨_, e⟩ := List.getElem?_eq_some_iff.1 h
  subst e
  rfl
end Go.Proofs.YtcfilepilgjlaaaDoor
