/- The packer's calls told by one plain answer; the document's side; speaks. -/
import Derived.Test.YtpbfealmhonbnaaQc
import Derived.Laws.Concat
namespace Go.Proofs.Ytpbfealmhonbnaa
open Go.RowKit

/-- what Add answers, what is held then, how many pages more were given -/
def addQ (s : Nat) (H q : ByteArray) : ByteArray × Bool × Int × ByteArray × Nat :=
  if q.size = 0 then (⟨#[]⟩, false, 1, H, 0) else if s < q.size then (⟨#[]⟩, false, 2, H, 0) else if H.size + q.size ≤ s then (⟨#[]⟩, false, 0, H ++ q, 0) else (H, true, 0, q, 1)
theorem str_back (H : ByteArray) : (⟨H.data.toList.toArray⟩ : ByteArray) = H := by apply ByteArray.ext; simp
theorem data_app (H q : ByteArray) : (H ++ q).data.toList = H.data.toList ++ q.data.toList := by simp [ByteArray.data_append]
theorem size_app (H q : ByteArray) : (H ++ q).size = H.size + q.size := by
  show (H ++ q).data.toList.length = H.data.toList.length + q.data.toList.length
  rw [data_app, List.length_append]
theorem addQ_size (s : Nat) (H q : ByteArray) (h : H.size ≤ s) : (addQ s H q).2.2.2.1.size ≤ s := by
  unfold addQ
  by_cases h1 : q.size = 0
  · rw [if_pos h1]; exact h
  · rw [if_neg h1]
    by_cases h2 : s < q.size
    · rw [if_pos h2]; exact h
    · rw [if_neg h2]
      by_cases h3 : H.size + q.size ≤ s
      · rw [if_pos h3]; show (H ++ q).size ≤ s
        rw [size_app]; exact h3
      · rw [if_neg h3]; exact Nat.le_of_not_lt h2
theorem addQ_one (s : Nat) (H q : ByteArray) : (addQ s H q).2.2.2.2 ≤ 1 := by
  unfold addQ
  split
  · exact Nat.zero_le _
  · split
    · exact Nat.zero_le _
    · split
      · exact Nat.zero_le _
      · exact Nat.le_refl _
theorem add_any (B g s p : Nat) (H q : ByteArray) (w : World) (h : PK w B g s H.data.toList p) (hm : q.size ≤ maxLen) (hp : p < 4611686018427387904) :
    Calls Try.prog 11 #[.pointer (some ⟨g, 0, none⟩), .string q] w fun e w' => e = .returned (.tuple #[.string (addQ s H q).1, .bool (addQ s H q).2.1, .int .i64 (addQ s H q).2.2.1]) ∧ PK w' B g s (addQ s H q).2.2.2.1.data.toList (p + (addQ s H q).2.2.2.2) ∧ Turn B g w w' := by
  unfold addQ
  by_cases h1 : q.size = 0
  · rw [if_pos h1]; exact add_empty B g s p _ q w h h1
  · rw [if_neg h1]
    by_cases h2 : s < q.size
    · rw [if_pos h2]; exact add_long B g s p _ q w h h2 hm
    · rw [if_neg h2]
      by_cases h3 : H.size + q.size ≤ s
      · rw [if_pos h3]; show Calls _ _ _ _ fun e w' => _ ∧ PK w' B g s (H ++ q).data.toList (p + 0) ∧ _
        rw [data_app]
        exact add_fits B g s p _ q w h (by omega) h3
      · rw [if_neg h3]
        have := add_full B g s p _ q w h (by omega) (show s < H.size + q.size by omega) hp
        rw [str_back] at this
        exact this
theorem flush_any (B g s p : Nat) (H : ByteArray) (w : World) (h : PK w B g s H.data.toList p) (hp : p < 4611686018427387904) :
    Calls Try.prog 9 #[.pointer (some ⟨g, 0, none⟩)] w fun e w' => e = .returned (.tuple #[.string H, .bool (decide (0 < H.size))]) ∧ PK w' B g s (ByteArray.mk #[]).data.toList (p + (if 0 < H.size then 1 else 0)) ∧ Turn B g w w' := by
  by_cases h0 : 0 < H.size
  · have := flush_some B g s p _ w h h0 hp
    rw [str_back] at this
    rw [decide_eq_true h0, if_pos h0]
    exact this
  · have e : H = ⟨#[]⟩ := by
      apply ByteArray.ext; apply Array.ext'
      have hs : H.data.toList.length = 0 := by have : H.size = H.data.toList.length := rfl; omega
      exact List.eq_nil_of_length_eq_zero hs
    subst e
    rw [if_neg h0, decide_eq_false h0]
    exact flush_none B g s p w h

/-! the document's packer -/
def RK (w : World) (d s : Nat) (H : ByteArray) (p : Nat) : Prop := w.heap[d]? = some (.cells #[.int .i64 (s : Int), .int .i64 (p : Int), .string H] 29 (0, 0))
set_option maxRecDepth 20000 in
theorem refSize (x : Int) (w : World) (h1 : -9223372036854775808 ≤ x) (h2 : x ≤ 9223372036854775807) :
    Calls Try.prog 8 #[.int .i64 x] w fun e w' => e = .returned (.int .i64 (szQ x : Int)) ∧ w = w' := by
  have hm := szQ_eq x
  generalize szQ x = s at *
  rcases (show x < 1 ∨ 2048 < x ∨ 1 ≤ x ∧ x ≤ 2048 by omega) with h | h | h
  · obtain rfl : s = 1 := by omega
    go_enter Try.func8, Try.ntmps8
    go_wp2
    go_ret
    exact ⟨rfl, rfl⟩
  · obtain rfl : s = 2048 := by omega
    go_enter Try.func8, Try.ntmps8
    go_wp2
    go_ret
    exact ⟨rfl, rfl⟩
  · obtain rfl : x = (s : Int) := by omega
    go_enter Try.func8, Try.ntmps8
    go_wp2
    go_ret
    exact ⟨rfl, rfl⟩
set_option maxRecDepth 20000 in
theorem refFlush (d s p : Nat) (H : ByteArray) (w : World) (h : RK w d s H p) (hp : p < 4611686018427387904) :
    Calls Try.prog 10 #[.pointer (some ⟨d, 0, none⟩)] w fun e w' => e = .returned (.tuple #[.string H, .bool (decide (0 < H.size))]) ∧ RK w' d s ⟨#[]⟩ (p + (if 0 < H.size then 1 else 0)) ∧ Upd (oneBlock d) w w' := by
  have HR := Lib.hid h
  have c1 : w.cell? ⟨d, 1, none⟩ = some (.int .i64 (p : Int)) := cell_of h 1
  have c2 : w.cell? ⟨d, 2, none⟩ = some (.string H) := cell_of h 2
  have f1 := free_of h 1
  have f2 := free_of h 2
  have HB : Hid (∀ u : Value, ((w.setCell ⟨d, 2, none⟩ (.string ⟨#[]⟩)).setCell ⟨d, 1, none⟩ u).heap[d]? = some (.cells #[.int .i64 (s : Int), u, .string ⟨#[]⟩] 29 (0, 0)) ∧ Upd (oneBlock d) w ((w.setCell ⟨d, 2, none⟩ (.string ⟨#[]⟩)).setCell ⟨d, 1, none⟩ u)) := fun u =>
    ⟨block_set (block_set h _) u, ((Upd.refl (oneBlock d) w).setCell (p := ⟨d, 2, none⟩) (.inl rfl) _).setCell (p := ⟨d, 1, none⟩) (.inl rfl) u⟩
  clear h
  by_cases h0 : 0 < H.size
  · have e0 : H.toList.isEmpty = false := by rw [empQ, decide_eq_false (by omega)]
    rw [decide_eq_true h0, if_pos h0]
    clear h0
    go_enter Try.func10, Try.ntmps10
    go_wp2
    go_ret2
    exact ⟨rfl, HB.out _⟩
  · have e0 : H.toList.isEmpty = true := by rw [empQ, decide_eq_true (by omega)]
    have e : H = ⟨#[]⟩ := by
      apply ByteArray.ext; apply Array.ext'
      have hs : H.data.toList.length = 0 := by have : H.size = H.data.toList.length := rfl; omega
      exact List.eq_nil_of_length_eq_zero hs
    rw [decide_eq_false h0, if_neg h0]
    clear h0
    go_enter Try.func10, Try.ntmps10
    go_wp2
    go_ret2
    refine ⟨by rw [e]; rfl, ?_, Upd.refl _ _⟩
    have := HR.out
    rw [e] at this
    exact this
set_option maxRecDepth 20000 in
theorem refAdd (d s p : Nat) (H q : ByteArray) (w : World) (h : RK w d s H p) (hH : H.size ≤ s) (hs : s ≤ 2048) (hm : q.size ≤ maxLen) (hp : p < 4611686018427387904) :
    Calls Try.prog 12 #[.pointer (some ⟨d, 0, none⟩), .string q] w fun e w' => e = .returned (.tuple #[.string (addQ s H q).1, .bool (addQ s H q).2.1, .int .i64 (addQ s H q).2.2.1]) ∧ RK w' d s (addQ s H q).2.2.2.1 (p + (addQ s H q).2.2.2.2) ∧ Upd (oneBlock d) w w' := by
  have HR := Lib.hid h
  have c0 : w.cell? ⟨d, 0, none⟩ = some (.int .i64 (s : Int)) := cell_of h 0
  have c1 : w.cell? ⟨d, 1, none⟩ = some (.int .i64 (p : Int)) := cell_of h 1
  have c2 : w.cell? ⟨d, 2, none⟩ = some (.string H) := cell_of h 2
  have f1 := free_of h 1
  have f2 := free_of h 2
  have hm' : q.size ≤ 9223372036854775807 := by unfold maxLen at hm; omega
  have HB : Hid (∀ w1 : World, Upd noBlock w w1 → ∀ a u : Value, (w1.setCell ⟨d, 2, none⟩ a).heap[d]? = some (.cells #[.int .i64 (s : Int), .int .i64 (p : Int), a] 29 (0, 0)) ∧ Upd (oneBlock d) w (w1.setCell ⟨d, 2, none⟩ a) ∧
      ((w1.setCell ⟨d, 2, none⟩ a).setCell ⟨d, 1, none⟩ u).heap[d]? = some (.cells #[.int .i64 (s : Int), u, a] 29 (0, 0)) ∧ Upd (oneBlock d) w ((w1.setCell ⟨d, 2, none⟩ a).setCell ⟨d, 1, none⟩ u)) := fun w1 hu a u => by
    have h1 := hu.cells h (fun h => h)
    have u1 : Upd (oneBlock d) w w1 := hu.mono fun _ _ h => h.elim
    have u2 : Upd (oneBlock d) w (w1.setCell ⟨d, 2, none⟩ a) := u1.setCell (p := ⟨d, 2, none⟩) (.inl rfl) _
    exact ⟨block_set h1 _, u2, block_set (block_set h1 _) u, u2.setCell (p := ⟨d, 1, none⟩) (.inl rfl) u⟩
  have hH4 : H.size ≤ 2048 := by omega
  clear h hm
  unfold addQ
  by_cases h1 : q.size = 0
  · have e0 : q.toList.isEmpty = true := by rw [empQ, decide_eq_true h1]
    rw [if_pos h1]
    go_enter Try.func12, Try.ntmps12
    go_wp2
    go_ret3
    exact ⟨rfl, HR.out, Upd.refl _ _⟩
  · have e0 : q.toList.isEmpty = false := by rw [empQ, decide_eq_false h1]
    rw [if_neg h1]
    by_cases h2 : s < q.size
    · rw [if_pos h2]
      go_enter Try.func12, Try.ntmps12
      go_wp2
      go_ret3
      exact ⟨rfl, HR.out, Upd.refl _ _⟩
    · rw [if_neg h2]
      have hq4 : q.size ≤ 2048 := by omega
      have hw : IntKind.i64.wrap ((H.size : Int) + (q.size : Int)) = (H.size : Int) + (q.size : Int) := IntWalk.i64_in _ (by omega)
      by_cases h3 : H.size + q.size ≤ s
      · rw [if_pos h3]
        have hsum := fun {P : Program} {w : World} => run_string_add_sum (P := P) (w := w) H q (by omega)
        go_enter Try.func12, Try.ntmps12
        go_wp2
        go_region
        all_goals
          go_wp2
          go_ret3
          exact ⟨rfl, (HB.out _ (Upd.refl noBlock w).drew _ (.bool true)).1, (HB.out _ (Upd.refl noBlock w).drew _ (.bool true)).2.1⟩
      · rw [if_neg h3]
        go_enter Try.func12, Try.ntmps12
        go_wp2
        go_region
        all_goals
          go_wp2
          go_ret3
          exact ⟨rfl, (HB.out _ (Upd.refl noBlock w).drew _ _).2.2⟩
end Go.Proofs.Ytpbfealmhonbnaa
