/- How long the lists are that a reading of small bulk holds. -/
import Derived.Test.YtdbjinakbbiimaaDoorRows
namespace Go.Proofs.YtdbjinakbbiimaaDoor

theorem bulk_pos {H : Type} : ∀ d : DataW H, 0 < Rows.uptoBulk d
  | .lit (.string b) => by unfold Rows.uptoBulk; exact Nat.succ_pos _
  | .lit (.int _ _) | .lit (.bool _) => by unfold Rows.uptoBulk; exact Nat.one_pos
  | .lit (.float _ _) => by unfold Rows.uptoBulk; exact Nat.one_pos
  | .lit .nil => by unfold Rows.uptoBulk; exact Nat.one_pos
  | .nil => by unfold Rows.uptoBulk; exact Nat.one_pos
  | .ptr _ | .slice _ _ | .agg _ | .iface _ _ | .map _ => by unfold Rows.uptoBulk; exact Nat.succ_pos _
  | .held _ => by unfold Rows.uptoBulk; exact Nat.one_pos
theorem bulk_count {H : Type} (l : List (DataW H)) : l.length ≤ Rows.uptoBulkAll l := by
  induction l with
  | nil => exact Nat.zero_le _
  | cons d l ih =>
    have h := bulk_pos d
    have e : Rows.uptoBulkAll (d :: l) = Rows.uptoBulk d + Rows.uptoBulkAll l := by rw [Rows.uptoBulkAll]
    rw [List.length_cons, e]; omega
theorem bulk_part {H : Type} {d : DataW H} {l : List (DataW H)} (h : d ∈ l) : Rows.uptoBulk d ≤ Rows.uptoBulkAll l := by
  induction l with
  | nil => cases h
  | cons x l ih =>
    have e : Rows.uptoBulkAll (x :: l) = Rows.uptoBulk x + Rows.uptoBulkAll l := by rw [Rows.uptoBulkAll]
    rw [e]
    rcases List.mem_cons.1 h with rfl | h
    · exact Nat.le_add_right _ _
    · exact Nat.le_trans (ih h) (Nat.le_add_left _ _)
/-- a slice's places -/
theorem bulk_slice {H : Type} {elems spare : List (DataW H)} {l : List (DataW H)} (hk : Rows.uptoSmall H l = true) (h : DataW.slice elems spare ∈ l) : elems.length + spare.length ≤ 1048576 := by
  have h0 : Rows.uptoBulkAll l ≤ 1048576 := of_decide_eq_true hk
  have h1 := bulk_part h
  have h2 := bulk_count elems
  have h3 := bulk_count spare
  have e : Rows.uptoBulk (DataW.slice elems spare) = Rows.uptoBulkAll elems + Rows.uptoBulkAll spare + 1 := by rw [Rows.uptoBulk]
  omega
/-- a text's letters -/
theorem bulk_text {H : Type} {b : List UInt8} {l : List (DataW H)} (hk : Rows.uptoSmall H l = true) (h : DataW.lit (.string b) ∈ l) : b.length ≤ 1048576 := by
  have h0 : Rows.uptoBulkAll l ≤ 1048576 := of_decide_eq_true hk
  have h1 := bulk_part h
  have e : Rows.uptoBulk (DataW.lit (H := H) (.string b)) = b.length + 1 := by rw [Rows.uptoBulk]
  omega
end Go.Proofs.YtdbjinakbbiimaaDoor
