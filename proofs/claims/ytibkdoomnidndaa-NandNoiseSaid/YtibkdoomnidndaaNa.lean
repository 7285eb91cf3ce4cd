/- Walks over package nand: pairs, places, refusals, the count of changes. -/
import Derived.Test.YtibkdoomnidndaaNm
import Derived.WalkKit
import Derived.Lib.Hide
import Derived.WalkSpells
import Derived.WalkLawsBesides
import Derived.BigQuiet
import Derived.BigRegion
import Derived.Deep.QuietTactic
namespace Go.Proofs.Ytibkdoomnidndaa
open Go.RowKit

/-! the pair of a page -/
set_option maxRecDepth 100000 in
theorem pair_neg (p : Int) (w : World) (h : p < 0) :
    Calls Try.prog 30 #[.int .i64 p] w fun e w' => e = .returned (.tuple #[.int .i64 0, .bool false]) ∧ w = w' := by
  go_enter Try.func30, Try.ntmps30
  go_wp2
  go_ret2
  exact ⟨rfl, rfl⟩
set_option maxRecDepth 100000 in
theorem pair_low (p : Nat) (w : World) (hp : Hid (p ≤ 9223372036854775807)) (h : p % 4 < 2) :
    Calls Try.prog 30 #[.int .i64 (p : Int)] w fun e w' => e = .returned (.tuple #[.int .i64 ((p + 2 : Nat) : Int), .bool false]) ∧ w = w' := by
  have h2 : (p : Int) % 4 < 2 := by omega
  have hw : IntKind.i64.wrap ((p : Int) + 2) = (p : Int) + 2 := by have := hp.out; rw [IntKind.wrap_i64]; omega
  clear h
  go_enter Try.func30, Try.ntmps30
  go_wp2
  go_ret2
  exact ⟨rfl, rfl⟩
set_option maxRecDepth 100000 in
theorem pair_up (p : Nat) (w : World) (hp : Hid (p ≤ 9223372036854775807)) (h : ¬ p % 4 < 2) :
    Calls Try.prog 30 #[.int .i64 (p : Int)] w fun e w' => e = .returned (.tuple #[.int .i64 ((p - 2 : Nat) : Int), .bool true]) ∧ w = w' := by
  have h2 : ¬ (p : Int) % 4 < 2 := by omega
  have h3 : ((p - 2 : Nat) : Int) = (p : Int) - 2 := by omega
  have hw : IntKind.i64.wrap ((p : Int) - 2) = (p : Int) - 2 := by have := hp.out; rw [IntKind.wrap_i64]; omega
  have H3 := Lib.hid h3
  clear h3 h
  go_enter Try.func30, Try.ntmps30
  go_wp2
  go_ret2
  rw [H3.out]
  exact ⟨rfl, rfl⟩

/-! the block, the page of a place -/
set_option maxRecDepth 100000 in
theorem block_nil (b : Int) (w : World) :
    Calls Try.prog 31 #[.pointer none, .int .i64 b] w fun e w' => e = .returned (.pointer none) ∧ w = w' := by
  go_enter Try.func31, Try.ntmps31
  go_wp2
  go_ret
  exact ⟨rfl, rfl⟩
set_option maxRecDepth 100000 in
theorem block_out (c bb nb : Nat) (b : Int) (w : World) (hnb : nb ≤ 64) (h0 : w.cell? ⟨c, 0, none⟩ = some (.slice (some ⟨bb, 0, none⟩) nb nb)) (h : b < 0 ∨ (nb : Int) ≤ b) :
    Calls Try.prog 31 #[.pointer (some ⟨c, 0, none⟩), .int .i64 b] w fun e w' => e = .returned (.pointer none) ∧ w = w' := by
  rcases h with h | h
  · go_enter Try.func31, Try.ntmps31
    go_wp2
    go_ret
    exact ⟨rfl, rfl⟩
  · have h' : ¬ b < 0 := by omega
    have h2 : decide ((nb : Int) ≤ b) = true := by simpa using h
    go_enter Try.func31, Try.ntmps31
    go_wp2
    go_ret
    exact ⟨rfl, rfl⟩
set_option maxRecDepth 100000 in
theorem block_in (c bb nb b : Nat) (w : World) (_ : nb ≤ 64) (h0 : w.cell? ⟨c, 0, none⟩ = some (.slice (some ⟨bb, 0, none⟩) nb nb)) (h : b < nb) :
    Calls Try.prog 31 #[.pointer (some ⟨c, 0, none⟩), .int .i64 (b : Int)] w fun e w' => e = .returned (.pointer (some ⟨bb, 4 * b, none⟩)) ∧ w = w' := by
  have h2 : decide ((nb : Nat) ≤ b) = false := decide_eq_false (by omega)
  go_enter Try.func31, Try.ntmps31
  go_wp2
  go_ret
  exact ⟨by simp, rfl⟩

set_option maxRecDepth 100000 in
theorem page_nil (b p : Int) (w : World) :
    Calls Try.prog 38 #[.pointer none, .int .i64 b, .int .i64 p] w fun e w' => e = .returned (.pointer none) ∧ w = w' := by
  go_enter Try.func38, Try.ntmps38
  go_wp2_with (go_at_call 31; refine (block_nil _ _).mono ?_; rintro e w' ⟨rfl, rfl⟩)
  go_ret
  exact ⟨rfl, rfl⟩
set_option maxRecDepth 100000 in
theorem page_out_b (c bb nb : Nat) (b p : Int) (w : World) (hnb : nb ≤ 64) (h0 : w.cell? ⟨c, 0, none⟩ = some (.slice (some ⟨bb, 0, none⟩) nb nb)) (h : b < 0 ∨ (nb : Int) ≤ b) :
    Calls Try.prog 38 #[.pointer (some ⟨c, 0, none⟩), .int .i64 b, .int .i64 p] w fun e w' => e = .returned (.pointer none) ∧ w = w' := by
  have H := Lib.hid h
  have H0 := Lib.hid h0
  clear h h0
  go_enter Try.func38, Try.ntmps38
  go_wp2_with (go_at_call 31; refine (block_out c bb nb b _ hnb H0.out H.out).mono ?_; rintro e w' ⟨rfl, rfl⟩)
  go_ret
  exact ⟨rfl, rfl⟩
set_option maxRecDepth 100000 in
theorem page_out_p (c bb nb b q np : Nat) (p : Int) (w : World) (hnb : nb ≤ 64) (h0 : w.cell? ⟨c, 0, none⟩ = some (.slice (some ⟨bb, 0, none⟩) nb nb)) (hb : b < nb)
    (h1 : w.cell? ⟨bb, 4 * b, none⟩ = some (.slice (some ⟨q, 0, none⟩) np np)) (hnp : np ≤ 64) (h : p < 0 ∨ (np : Int) ≤ p) :
    Calls Try.prog 38 #[.pointer (some ⟨c, 0, none⟩), .int .i64 (b : Int), .int .i64 p] w fun e w' => e = .returned (.pointer none) ∧ w = w' := by
  have H0 := Lib.hid h0
  clear h0
  rcases h with h | h
  · go_enter Try.func38, Try.ntmps38
    go_wp2_with (go_at_call 31; refine (block_in c bb nb b _ hnb H0.out hb).mono ?_; rintro e w' ⟨rfl, rfl⟩)
    go_ret
    exact ⟨rfl, rfl⟩
  · have h' : ¬ p < 0 := by omega
    have h2 : decide ((np : Int) ≤ p) = true := by simpa using h
    go_enter Try.func38, Try.ntmps38
    go_wp2_with (go_at_call 31; refine (block_in c bb nb b _ hnb H0.out hb).mono ?_; rintro e w' ⟨rfl, rfl⟩)
    go_ret
    exact ⟨rfl, rfl⟩
set_option maxRecDepth 100000 in
theorem page_in (c bb nb b q np p : Nat) (w : World) (hnb : nb ≤ 64) (h0 : w.cell? ⟨c, 0, none⟩ = some (.slice (some ⟨bb, 0, none⟩) nb nb)) (hb : b < nb)
    (h1 : w.cell? ⟨bb, 4 * b, none⟩ = some (.slice (some ⟨q, 0, none⟩) np np)) (_ : np ≤ 64) (h : p < np) :
    Calls Try.prog 38 #[.pointer (some ⟨c, 0, none⟩), .int .i64 (b : Int), .int .i64 (p : Int)] w fun e w' => e = .returned (.pointer (some ⟨q, 3 * p, none⟩)) ∧ w = w' := by
  have H0 := Lib.hid h0
  clear h0
  have h2 : decide ((np : Nat) ≤ p) = false := decide_eq_false (by omega)
  go_enter Try.func38, Try.ntmps38
  go_wp2_with (go_at_call 31; refine (block_in c bb nb b _ hnb H0.out hb).mono ?_; rintro e w' ⟨rfl, rfl⟩)
  go_ret
  exact ⟨by simp, rfl⟩

/-! what keeps a change from a block; the count of changes -/
def refusalOf (off worn : Bool) : Int := if off then 20 else if worn then 22 else 0
set_option maxRecDepth 100000 in
theorem refusal_any (c bb b : Nat) (off worn : Bool) (w : World) (h0 : w.cell? ⟨c, 6, none⟩ = some (.bool off)) (h1 : w.cell? ⟨bb, 4 * b + 3, none⟩ = some (.bool worn)) :
    Calls Try.prog 32 #[.pointer (some ⟨c, 0, none⟩), .pointer (some ⟨bb, 4 * b, none⟩)] w fun e w' => e = .returned (.int .i64 (refusalOf off worn)) ∧ w = w' := by
  cases off <;> cases worn <;>
  · go_enter Try.func32, Try.ntmps32
    go_wp2
    go_ret
    exact ⟨rfl, rfl⟩

/-- a change: is it the torn one -/
def Ch.torn (M : Ch) : Bool := M.left == 1
def Ch.changed (M : Ch) : Ch := { M with changes := M.changes + 1, left := M.left - 1, off := M.left == 1 }
set_option maxRecDepth 100000 in
theorem change_any (c bb : Nat) (pb : Nat → Nat) (M : Ch) (w : World) (h : ChipIn w c bb pb M) (hoff : M.off = false) (hc : M.changes < 4611686018427387904) (hl : M.left ≤ 9223372036854775807) :
    Calls Try.prog 33 #[.pointer (some ⟨c, 0, none⟩)] w fun e w' => e = .returned (.bool M.torn) ∧ ChipIn w' c bb pb M.changed ∧ Upd (oneBlock c) w w' := by
  obtain ⟨n, hn⟩ : ∃ n, n = M.changes := ⟨_, rfl⟩
  have c9 : w.cell? ⟨c, 9, none⟩ = some (.int .i64 (n : Int)) := by rw [hn]; exact h.cell 9
  have c6 : w.cell? ⟨c, 6, none⟩ = some (.bool false) := by have := h.cell 6; rw [show (chTop bb M)[6]? = some (.bool M.off) from rfl, hoff] at this; exact this
  have f9 := h.free 9
  have f6 := h.free 6
  have f7 := h.free 7
  rw [← hn] at hc
  by_cases h0 : M.left = 0
  · have c7 : w.cell? ⟨c, 7, none⟩ = some (.int .i64 0) := by have := h.cell 7; rw [show (chTop bb M)[7]? = some (.int .i64 (M.left : Int)) from rfl, h0] at this; exact this
    have e : Upd (oneBlock c) w (w.setCell ⟨c, 9, none⟩ (.int .i64 ((n : Int) + 1))) ∧ ChipIn (w.setCell ⟨c, 9, none⟩ (.int .i64 ((n : Int) + 1))) c bb pb M.changed ∧ M.torn = false :=
      ⟨(Upd.refl (oneBlock c) w).setCell (p := ⟨c, 9, none⟩) (.inl rfl) _, h.setTop 9 _ M.changed (by simp [chTop, Ch.changed, h0, hn, hoff]) rfl rfl rfl rfl, by simp [Ch.torn, h0]⟩
    have E := Lib.hid e
    clear e h hn hoff h0 hl
    go_enter Try.func33, Try.ntmps33
    go_wp2
    go_ret
    exact ⟨by rw [E.out.2.2]; rfl, E.out.2.1, E.out.1⟩
  · obtain ⟨m, hm⟩ : ∃ m, m + 1 = M.left := ⟨M.left - 1, by omega⟩
    have c7 : w.cell? ⟨c, 7, none⟩ = some (.int .i64 ((m + 1 : Nat) : Int)) := by rw [hm]; exact h.cell 7
    have e : Upd (oneBlock c) w (((w.setCell ⟨c, 9, none⟩ (.int .i64 ((n : Int) + 1))).setCell ⟨c, 7, none⟩ (.int .i64 (m : Int))).setCell ⟨c, 6, none⟩ (.bool (m == 0))) ∧
        ChipIn (((w.setCell ⟨c, 9, none⟩ (.int .i64 ((n : Int) + 1))).setCell ⟨c, 7, none⟩ (.int .i64 (m : Int))).setCell ⟨c, 6, none⟩ (.bool (m == 0))) c bb pb M.changed ∧ M.torn = (m == 0) := by
      have h1 := h.setTop 9 (.int .i64 ((n : Int) + 1)) { M with changes := M.changes + 1 } (by simp [chTop, hn]) rfl rfl rfl rfl
      have h2 := h1.setTop 7 (.int .i64 (m : Int)) { M with changes := M.changes + 1, left := M.left - 1 } (by simp [chTop, ← hm]) rfl rfl rfl rfl
      have h3 := h2.setTop 6 (.bool (m == 0)) M.changed (by simp [chTop, Ch.changed, ← hm]) rfl rfl rfl rfl
      refine ⟨(((Upd.refl (oneBlock c) w).setCell (p := ⟨c, 9, none⟩) (.inl rfl) _).setCell (p := ⟨c, 7, none⟩) (.inl rfl) _).setCell (p := ⟨c, 6, none⟩) (.inl rfl) _, h3, ?_⟩
      simp [Ch.torn, ← hm]
    have hm2 : m + 1 ≤ 9223372036854775807 := by omega
    have E := Lib.hid e
    clear e h hn hoff h0 hl hm
    by_cases hm0 : m = 0
    · subst hm0
      go_enter Try.func33, Try.ntmps33
      go_wp2
      go_ret
      exact ⟨by rw [E.out.2.2]; rfl, E.out.2.1, E.out.1⟩
    · have hb : (m == 0) = false := by simpa using hm0
      have hb2 : ((m : Int) == 0) = false := by simpa using hm0
      rw [hb] at E
      clear hb
      go_enter Try.func33, Try.ntmps33
      go_wp2
      go_ret
      exact ⟨by rw [E.out.2.2]; rfl, E.out.2.1, E.out.1⟩
end Go.Proofs.Ytibkdoomnidndaa
