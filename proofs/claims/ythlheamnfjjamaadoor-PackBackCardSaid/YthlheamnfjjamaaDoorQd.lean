/- The packer's calls told by one plain answer; the document's side; speaks. -/
import Derived.Test.YthlheamnfjjamaaDoorQc
import Derived.Laws.Concat
namespace Go.Proofs.YthlheamnfjjamaaDoor
open Go.RowKit

/-- what Add answers, what is held then, how many pages more were given -/
def addQ (s : Nat) (H q : ByteArray) : ByteArray × Bool × Int × ByteArray × Nat :=
  if q.size = 0 then (⟨#[]⟩, false, 1, H, 0) else if s < q.size then (⟨#[]⟩, false, 2, H, 0) else if H.size + q.size ≤ s then (⟨#[]⟩, false, 0, H ++ q, 0) else (H, true, 0, q, 1)
theorem str_back (H : ByteArray) : (⟨H.data.toList.toArray⟩ : ByteArray) = H := by apply ByteArray.ext; simp
theorem data_app (H q : ByteArray) : (H ++ q).data.toList = H.data.toList ++ q.data.toList := by simp [ByteArray.data_append]
theorem size_app (H q : ByteArray) : (H ++ q).size = H.size + q.size := by
  show (H ++ q).data.toList.length = H.data.toList.length + q.data.toList.length
  rw [data_app, List.length_append]
theorem addQ_size (s : Nat) (H q : ByteArray) (h : H.size ≤ s) : (addQ s H q).2.2.2.1.size ≤ s := by
  unfold addQ
  by_cases h1 : q.size = 0
  · rw [if_pos h1]; exact h
  · rw [if_neg h1]
    by_cases h2 : s < q.size
    · rw [if_pos h2]; exact h
    · rw [if_neg h2]
      by_cases h3 : H.size + q.size ≤ s
      · rw [if_pos h3]; show (H ++ q).size ≤ s
        rw [size_app]; exact h3
      · rw [if_neg h3]; exact Nat.le_of_not_lt h2
theorem addQ_one (s : Nat) (H q : ByteArray) : (addQ s H q).2.2.2.2 ≤ 1 := by
  unfold addQ
  split
  · exact Nat.zero_le _
  · split
    · exact Nat.zero_le _
    · split
      · exact Nat.zero_le _
      · exact Nat.le_refl _
theorem add_any (B g s p : Nat) (H q : ByteArray) (w : World) (h : PK w B g s H.data.toList p) (hm : q.size ≤ maxLen) (hp : p < 4611686018427387904) :
    Calls Tryd.prog 31 #[.pointer (some ⟨g, 0, none⟩), .string q] w fun e w' => e = .returned (.tuple #[.string (addQ s H q).1, .bool (addQ s H q).2.1, .int .i64 (addQ s H q).2.2.1]) ∧ PK w' B g s (addQ s H q).2.2.2.1.data.toList (p + (addQ s H q).2.2.2.2) ∧ Turn B g w w' := by
  unfold addQ
  by_cases h1 : q.size = 0
  · rw [if_pos h1]; exact add_empty B g s p _ q w h h1
  · rw [if_neg h1]
    by_cases h2 : s < q.size
    · rw [if_pos h2]; exact add_long B g s p _ q w h h2 hm
    · rw [if_neg h2]
      by_cases h3 : H.size + q.size ≤ s
      · rw [if_pos h3]; show Calls _ _ _ _ fun e w' => _ ∧ PK w' B g s (H ++ q).data.toList (p + 0) ∧ _
        rw [data_app]
        exact add_fits B g s p _ q w h (by omega) h3
      · rw [if_neg h3]
        have := add_full B g s p _ q w h (by omega) (show s < H.size + q.size by omega) hp
        rw [str_back] at this
        exact this
theorem flush_any (B g s p : Nat) (H : ByteArray) (w : World) (h : PK w B g s H.data.toList p) (hp : p < 4611686018427387904) :
    Calls Tryd.prog 32 #[.pointer (some ⟨g, 0, none⟩)] w fun e w' => e = .returned (.tuple #[.string H, .bool (decide (0 < H.size))]) ∧ PK w' B g s (ByteArray.mk #[]).data.toList (p + (if 0 < H.size then 1 else 0)) ∧ Turn B g w w' := by
  by_cases h0 : 0 < H.size
  · have := flush_some B g s p _ w h h0 hp
    rw [str_back] at this
    rw [decide_eq_true h0, if_pos h0]
    exact this
  · have e : H = ⟨#[]⟩ := by
      apply ByteArray.ext; apply Array.ext'
      have hs : H.data.toList.length = 0 := by have : H.size = H.data.toList.length := rfl; omega
      exact List.eq_nil_of_length_eq_zero hs
    subst e
    rw [if_neg h0, decide_eq_false h0]
    exact flush_none B g s p w h

/-! the document's packer -/
end Go.Proofs.YthlheamnfjjamaaDoor
