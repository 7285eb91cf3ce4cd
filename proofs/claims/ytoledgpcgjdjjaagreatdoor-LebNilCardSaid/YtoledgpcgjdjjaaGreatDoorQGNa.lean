import Derived.Test.YtoledgpcgjdjjaaGreatDoorQNm
import Derived.WalkKit
import Derived.Lib.Hide
import Derived.WalkSpells
import Derived.WalkLawsBesides
import Derived.BigQuiet
import Derived.BigRegion
import Derived.Deep.QuietTactic
import Derived.Lib.ConvBytes
/- Walks over package nand: pairs, places, refusals, the count of changes. -/
namespace Go.Proofs.YtoledgpcgjdjjaaGreatDoor
open Go.RowKit

/-! the pair of a page -/
set_option maxRecDepth 100000 in
theorem pair_low (p : Nat) (w : World) (hp : Hid (p ≤ 9223372036854775807)) (h : p % 4 < 2) :
    Calls Tryz.prog 104 #[.int .i64 (p : Int)] w fun e w' => e = .returned (.tuple #[.int .i64 ((p + 2 : Nat) : Int), .bool false]) ∧ w = w' := by
  have h2 : (p : Int) % 4 < 2 := by omega
  have hw : IntKind.i64.wrap ((p : Int) + 2) = (p : Int) + 2 := by have := hp.out; rw [IntKind.wrap_i64]; omega
  clear h
  go_enter Tryz.func104, Tryz.ntmps104
  go_wp2
  go_ret2
  exact ⟨rfl, rfl⟩
set_option maxRecDepth 100000 in
theorem pair_up (p : Nat) (w : World) (hp : Hid (p ≤ 9223372036854775807)) (h : ¬ p % 4 < 2) :
    Calls Tryz.prog 104 #[.int .i64 (p : Int)] w fun e w' => e = .returned (.tuple #[.int .i64 ((p - 2 : Nat) : Int), .bool true]) ∧ w = w' := by
  have h2 : ¬ (p : Int) % 4 < 2 := by omega
  have h3 : ((p - 2 : Nat) : Int) = (p : Int) - 2 := by omega
  have hw : IntKind.i64.wrap ((p : Int) - 2) = (p : Int) - 2 := by have := hp.out; rw [IntKind.wrap_i64]; omega
  have H3 := Lib.hid h3
  clear h3 h
  go_enter Tryz.func104, Tryz.ntmps104
  go_wp2
  go_ret2
  rw [H3.out]
  exact ⟨rfl, rfl⟩

/-! the block, the page of a place -/
set_option maxRecDepth 100000 in
theorem block_in (c bb nb b : Nat) (w : World) (_ : nb ≤ 64) (h0 : w.cell? ⟨c, 0, none⟩ = some (.slice (some ⟨bb, 0, none⟩) nb nb)) (h : b < nb) :
    Calls Tryz.prog 72 #[.pointer (some ⟨c, 0, none⟩), .int .i64 (b : Int)] w fun e w' => e = .returned (.pointer (some ⟨bb, 4 * b, none⟩)) ∧ w = w' := by
  have h2 : decide ((nb : Nat) ≤ b) = false := decide_eq_false (by omega)
  go_enter Tryz.func72, Tryz.ntmps72
  go_wp2
  go_ret
  exact ⟨by simp, rfl⟩

set_option maxRecDepth 100000 in
theorem page_in (c bb nb b q np p : Nat) (w : World) (hnb : nb ≤ 64) (h0 : w.cell? ⟨c, 0, none⟩ = some (.slice (some ⟨bb, 0, none⟩) nb nb)) (hb : b < nb)
    (h1 : w.cell? ⟨bb, 4 * b, none⟩ = some (.slice (some ⟨q, 0, none⟩) np np)) (_ : np ≤ 64) (h : p < np) :
    Calls Tryz.prog 43 #[.pointer (some ⟨c, 0, none⟩), .int .i64 (b : Int), .int .i64 (p : Int)] w fun e w' => e = .returned (.pointer (some ⟨q, 3 * p, none⟩)) ∧ w = w' := by
  have H0 := Lib.hid h0
  clear h0
  have h2 : decide ((np : Nat) ≤ p) = false := decide_eq_false (by omega)
  go_enter Tryz.func43, Tryz.ntmps43
  go_wp2_with (go_at_call 72; refine (block_in c bb nb b _ hnb H0.out hb).mono ?_; rintro e w' ⟨rfl, rfl⟩)
  go_ret
  exact ⟨by simp, rfl⟩

/-! what keeps a change from a block; the count of changes -/
def refusalOf (off worn : Bool) : Int := if off then 20 else if worn then 22 else 0
set_option maxRecDepth 100000 in
theorem refusal_any (c bb b : Nat) (off worn : Bool) (w : World) (h0 : w.cell? ⟨c, 6, none⟩ = some (.bool off)) (h1 : w.cell? ⟨bb, 4 * b + 3, none⟩ = some (.bool worn)) :
    Calls Tryz.prog 94 #[.pointer (some ⟨c, 0, none⟩), .pointer (some ⟨bb, 4 * b, none⟩)] w fun e w' => e = .returned (.int .i64 (refusalOf off worn)) ∧ w = w' := by
  cases off <;> cases worn <;>
  · go_enter Tryz.func94, Tryz.ntmps94
    go_wp2
    go_ret
    exact ⟨rfl, rfl⟩

def Ch.torn (M : Ch) : Bool := M.left == 1
def Ch.changed (M : Ch) : Ch := { M with changes := M.changes + 1, left := M.left - 1, off := M.left == 1 }
set_option maxRecDepth 100000 in
theorem change_any (c bb : Nat) (pb : Nat → Nat) (M : Ch) (w : World) (h : ChipIn w c bb pb M) (hoff : M.off = false) (hc : M.changes < 4611686018427387904) (hl : M.left ≤ 9223372036854775807) :
    Calls Tryz.prog 95 #[.pointer (some ⟨c, 0, none⟩)] w fun e w' => e = .returned (.bool M.torn) ∧ ChipIn w' c bb pb M.changed ∧ Upd (oneBlock c) w w' := by
  obtain ⟨n, hn⟩ : ∃ n, n = M.changes := ⟨_, rfl⟩
  have c9 : w.cell? ⟨c, 9, none⟩ = some (.int .i64 (n : Int)) := by rw [hn]; exact h.cell 9
  have c6 : w.cell? ⟨c, 6, none⟩ = some (.bool false) := by have := h.cell 6; rw [show (chTop bb M)[6]? = some (.bool M.off) from rfl, hoff] at this; exact this
  have f9 := h.free 9
  have f6 := h.free 6
  have f7 := h.free 7
  rw [← hn] at hc
  by_cases h0 : M.left = 0
  · have c7 : w.cell? ⟨c, 7, none⟩ = some (.int .i64 0) := by have := h.cell 7; rw [show (chTop bb M)[7]? = some (.int .i64 (M.left : Int)) from rfl, h0] at this; exact this
    have e : Upd (oneBlock c) w (w.setCell ⟨c, 9, none⟩ (.int .i64 ((n : Int) + 1))) ∧ ChipIn (w.setCell ⟨c, 9, none⟩ (.int .i64 ((n : Int) + 1))) c bb pb M.changed ∧ M.torn = false :=
      ⟨(Upd.refl (oneBlock c) w).setCell (p := ⟨c, 9, none⟩) (.inl rfl) _, h.setTop 9 _ M.changed (by simp [chTop, Ch.changed, h0, hn, hoff]) rfl rfl rfl rfl, by simp [Ch.torn, h0]⟩
    have E := Lib.hid e
    clear e h hn hoff h0 hl
    go_enter Tryz.func95, Tryz.ntmps95
    go_wp2
    go_ret
    exact ⟨by rw [E.out.2.2]; rfl, E.out.2.1, E.out.1⟩
  · obtain ⟨m, hm⟩ : ∃ m, m + 1 = M.left := ⟨M.left - 1, by omega⟩
    have c7 : w.cell? ⟨c, 7, none⟩ = some (.int .i64 ((m + 1 : Nat) : Int)) := by rw [hm]; exact h.cell 7
    have e : Upd (oneBlock c) w (((w.setCell ⟨c, 9, none⟩ (.int .i64 ((n : Int) + 1))).setCell ⟨c, 7, none⟩ (.int .i64 (m : Int))).setCell ⟨c, 6, none⟩ (.bool (m == 0))) ∧
        ChipIn (((w.setCell ⟨c, 9, none⟩ (.int .i64 ((n : Int) + 1))).setCell ⟨c, 7, none⟩ (.int .i64 (m : Int))).setCell ⟨c, 6, none⟩ (.bool (m == 0))) c bb pb M.changed ∧ M.torn = (m == 0) := by
      have h1 := h.setTop 9 (.int .i64 ((n : Int) + 1)) { M with changes := M.changes + 1 } (by simp [chTop, hn]) rfl rfl rfl rfl
      have h2 := h1.setTop 7 (.int .i64 (m : Int)) { M with changes := M.changes + 1, left := M.left - 1 } (by simp [chTop, ← hm]) rfl rfl rfl rfl
      have h3 := h2.setTop 6 (.bool (m == 0)) M.changed (by simp [chTop, Ch.changed, ← hm]) rfl rfl rfl rfl
      refine ⟨(((Upd.refl (oneBlock c) w).setCell (p := ⟨c, 9, none⟩) (.inl rfl) _).setCell (p := ⟨c, 7, none⟩) (.inl rfl) _).setCell (p := ⟨c, 6, none⟩) (.inl rfl) _, h3, ?_⟩
      simp [Ch.torn, ← hm]
    have hm2 : m + 1 ≤ 9223372036854775807 := by omega
    have E := Lib.hid e
    clear e h hn hoff h0 hl hm
    by_cases hm0 : m = 0
    · subst hm0
      go_enter Tryz.func95, Tryz.ntmps95
      go_wp2
      go_ret
      exact ⟨by rw [E.out.2.2]; rfl, E.out.2.1, E.out.1⟩
    · have hb : (m == 0) = false := by simpa using hm0
      have hb2 : ((m : Int) == 0) = false := by simpa using hm0
      rw [hb] at E
      clear hb
      go_enter Tryz.func95, Tryz.ntmps95
      go_wp2
      go_ret
      exact ⟨by rw [E.out.2.2]; rfl, E.out.2.1, E.out.1⟩
end Go.Proofs.YtoledgpcgjdjjaaGreatDoor

/- Walks over package nand: what becomes of one page. -/
namespace Go.Proofs.YtoledgpcgjdjjaaGreatDoor
open Go.RowKit

theorem pgs_cells {w : World} {q np sz : Nat} {B : Bk} (h : PgsIn w q np sz B) {p : Nat} (hp : p < np) :
    w.cell? ⟨q, 3 * p, none⟩ = some (.int .i64 ((B.pg p).st : Nat)) ∧ w.cell? ⟨q, 3 * p + 1, none⟩ = some (.bool (B.pg p).torn) ∧ (∃ a n k, w.cell? ⟨q, 3 * p + 2, none⟩ = some (.slice a n k)) ∧ (∀ i, w.frozen? ⟨q, i, none⟩ = false) := by
  obtain ⟨D, hD, hS, _⟩ := h
  obtain ⟨a, n, k, e⟩ := hS p hp
  refine ⟨by rw [hD.cell (by omega), pgCell0], by rw [hD.cell (by omega), pgCell1], ⟨a, n, k, by rw [hD.cell (by omega), pgCell2, e]⟩, fun i => hD.frozen i⟩

theorem PgsIn.put {w : World} {q np sz : Nat} {B : Bk} (h : PgsIn w q np sz B) {p : Nat} (hp : p < np) (x : Pg) (v : Value) (hsl : ∃ a n k, v = .slice a n k) (w1 : World) (hu : Upd noBlock w w1) (hv : x.st = 1 → Bs w1 0 5 v x.data ∧ x.data.length = sz) (ht : x.torn = (B.pg p).torn) :
    PgsIn ((w1.setCell ⟨q, 3 * p, none⟩ (.int .i64 (x.st : Nat))).setCell ⟨q, 3 * p + 2, none⟩ v) q np sz (B.setPg p x) := by
  have hq := h.grow hu
  obtain ⟨D, hD, hS, hd⟩ := hq
  have hU : Upd (oneBlock q) w1 ((w1.setCell ⟨q, 3 * p, none⟩ (.int .i64 (x.st : Nat))).setCell ⟨q, 3 * p + 2, none⟩ v) :=
    ((Upd.refl (oneBlock q) w1).setCell (p := ⟨q, 3 * p, none⟩) (.inl rfl) _).setCell (p := ⟨q, 3 * p + 2, none⟩) (.inl rfl) _
  have hR : ∀ g y z, w1.heap[g]? = some (.cells y 5 z) → ¬ oneBlock q g := by
    intro g y z hg e
    obtain ⟨y', hy'⟩ := row_block hD
    exact apart hg hy' (by decide) e
  refine ⟨fun r => if r = p then v else D r, ((hD.set (3 * p) _).set (3 * p + 2) _).congr fun i hi => ?_, fun r hr => ?_, fun r hr h1 => ?_⟩
  · unfold pgCell Bk.setPg
    by_cases e : i / 3 = p
    · have e3 : i = 3 * p ∨ i = 3 * p + 1 ∨ i = 3 * p + 2 := by omega
      rcases e3 with rfl | rfl | rfl
      · simp only [if_neg (show ¬ 3 * p = 3 * p + 2 by omega), if_true, if_pos (show 3 * p % 3 = 0 by omega), show 3 * p / 3 = p by omega]
      · simp only [if_neg (show ¬ 3 * p + 1 = 3 * p + 2 by omega), if_neg (show ¬ 3 * p + 1 = 3 * p by omega), if_neg (show ¬ (3 * p + 1) % 3 = 0 by omega), if_pos (show (3 * p + 1) % 3 = 1 by omega), show (3 * p + 1) / 3 = p by omega, if_true, ht]
      · simp only [if_true, if_neg (show ¬ (3 * p + 2) % 3 = 0 by omega), if_neg (show ¬ (3 * p + 2) % 3 = 1 by omega), show (3 * p + 2) / 3 = p by omega]
    · simp only [if_neg (show ¬ i = 3 * p + 2 by omega), if_neg (show ¬ i = 3 * p by omega), if_neg e]
  · by_cases e : r = p
    · simp only [if_pos e]; exact hsl
    · simp only [if_neg e]; exact hS r hr
  · by_cases e : r = p
    · subst e
      simp only [Bk.setPg, if_true] at h1 ⊢
      exact ⟨(hv h1).1.upd hU hR, (hv h1).2⟩
    · simp only [Bk.setPg, if_neg e] at h1 ⊢
      exact ⟨(hd r hr h1).1.upd hU hR, (hd r hr h1).2⟩
theorem PgsIn.same {w : World} {q np sz : Nat} {B : Bk} (h : PgsIn w q np sz B) (p : Nat) : PgsIn w q np sz (B.setPg p (B.pg p)) :=
  h.congr fun r _ => by
    unfold Bk.setPg
    by_cases e : r = p
    · subst e; simp
    · simp [e]

set_option maxRecDepth 100000 in
theorem spoil_any (q np sz p : Nat) (B : Bk) (w : World) (h : PgsIn w q np sz B) (hp : p < np) :
    Calls Tryz.prog 73 #[.pointer (some ⟨q, 3 * p, none⟩)] w fun e w' => e = .returned (.tuple #[]) ∧ PgsIn w' q np sz (B.setPg p (B.pg p).spoil) ∧ Upd (oneBlock q) w w' := by
  obtain ⟨c0, c1, ⟨va, vn, vk, c2⟩, f⟩ := pgs_cells h hp
  have f0 := f (3 * p)
  have f2 := f (3 * p + 2)
  have E := Lib.hid (h.put hp (B.pg p).spoil (.slice none 0 0) ⟨_, _, _, rfl⟩ w (Upd.refl _ _) (by simp [Pg.spoil]) rfl)
  have U : Upd (oneBlock q) w ((w.setCell ⟨q, 3 * p, none⟩ (.int .i64 2)).setCell ⟨q, 3 * p + 2, none⟩ (.slice none 0 0)) :=
    ((Upd.refl (oneBlock q) w).setCell (p := ⟨q, 3 * p, none⟩) (.inl rfl) _).setCell (p := ⟨q, 3 * p + 2, none⟩) (.inl rfl) _
  clear f h
  generalize hst : ((B.pg p).st : Int) = st at c0
  clear hst
  go_enter Tryz.func73, Tryz.ntmps73
  go_wp2
  go_end0
  exact ⟨rfl, E.out, U⟩

set_option maxRecDepth 100000 in
theorem spoilW_any (q np sz p : Nat) (B : Bk) (w : World) (h : PgsIn w q np sz B) (hp : p < np) :
    Calls Tryz.prog 44 #[.pointer (some ⟨q, 3 * p, none⟩)] w fun e w' => e = .returned (.tuple #[]) ∧ PgsIn w' q np sz (B.setPg p (B.pg p).spoilW) ∧ Upd (oneBlock q) w w' := by
  obtain ⟨c0, _, _, _⟩ := pgs_cells h hp
  by_cases h1 : (B.pg p).st = 1
  · rw [h1] at c0
    have e : (B.pg p).spoilW = (B.pg p).spoil := by simp [Pg.spoilW, h1]
    rw [e]
    clear h1 e
    go_enter Tryz.func44, Tryz.ntmps44
    go_wp2_with (go_at_call 73; refine (spoil_any q np sz p B _ h hp).mono ?_; rintro e w' ⟨rfl, h1, h2⟩)
    go_end0
    exact ⟨rfl, by assumption, by assumption⟩
  · have e : (B.pg p).spoilW = B.pg p := by simp [Pg.spoilW, h1]
    rw [e]
    have hb : (((B.pg p).st : Int) == 1) = false := beq_eq_false_iff_ne.2 (by omega)
    generalize ((B.pg p).st : Int) = st at c0 hb
    have E := Lib.hid (h.same p)
    clear h1 e h
    go_enter Tryz.func44, Tryz.ntmps44
    go_wp2
    go_end0
    exact ⟨rfl, E.out, Upd.refl _ _⟩
set_option maxRecDepth 100000 in
theorem spoilN_any (q np sz p : Nat) (B : Bk) (w : World) (h : PgsIn w q np sz B) (hp : p < np) :
    Calls Tryz.prog 119 #[.pointer (some ⟨q, 3 * p, none⟩)] w fun e w' => e = .returned (.tuple #[]) ∧ PgsIn w' q np sz (B.setPg p (B.pg p).spoilN) ∧ Upd (oneBlock q) w w' := by
  obtain ⟨c0, _, _, _⟩ := pgs_cells h hp
  by_cases h1 : (B.pg p).st = 0
  · rw [h1] at c0
    have e : (B.pg p).spoilN = B.pg p := by simp [Pg.spoilN, h1]
    rw [e]
    have E := Lib.hid (h.same p)
    clear h1 e h
    go_enter Tryz.func119, Tryz.ntmps119
    go_wp2
    go_end0
    exact ⟨rfl, E.out, Upd.refl _ _⟩
  · have e : (B.pg p).spoilN = (B.pg p).spoil := by simp [Pg.spoilN, h1]
    rw [e]
    have hb : (((B.pg p).st : Int) != 0) = true := bne_iff_ne.2 (by omega)
    generalize ((B.pg p).st : Int) = st at c0 hb
    clear h1 e
    go_enter Tryz.func119, Tryz.ntmps119
    go_wp2_with (go_at_call 73; refine (spoil_any q np sz p B _ h hp).mono ?_; rintro e w' ⟨rfl, h1, h2⟩)
    go_end0
    exact ⟨rfl, by assumption, by assumption⟩

set_option maxRecDepth 100000 in
theorem write_any (q np p : Nat) (B : Bk) (s : ByteArray) (w : World) (hs : s.size ≤ 2048) (h : PgsIn w q np s.size B) (hp : p < np) :
    Calls Tryz.prog 184 #[.pointer (some ⟨q, 3 * p, none⟩), .string s] w fun e w' => e = .returned (.tuple #[]) ∧ PgsIn w' q np s.size (B.setPg p ((B.pg p).write s.data.toList)) ∧ Upd (oneBlock q) w w' := by
  obtain ⟨CW, CC, hrun, HU, HB⟩ := conv_row (P := Tryz.prog) 9 105 5 Tryz.underlying9 Tryz.underlying105 Tryz.underlying5 s (by unfold maxLen; omega)
  have hq := h.lt
  have cell1 : ∀ i v, w.cell? ⟨q, i, none⟩ = some v → (CW w).cell? ⟨q, i, none⟩ = some v := fun i v hv => upd_cell (HU.out w) hv
  obtain ⟨c0, c1, ⟨va, vn, vk, c2⟩, _⟩ := pgs_cells h hp
  obtain ⟨_, _, _, f⟩ := pgs_cells (h.grow (HU.out w)) hp
  have f0 := f (3 * p)
  have f2 := f (3 * p + 2)
  have c0' := cell1 _ _ c0
  have c2' := cell1 _ _ c2
  have E := Lib.hid (h.put hp ((B.pg p).write s.data.toList) (.slice (some ⟨w.heap.size, 0, none⟩) s.size (CC w)) ⟨_, _, _, rfl⟩ (CW w) (HU.out w) (fun _ => ⟨((HB.out w).more (Nat.zero_le _)), rfl⟩) rfl)
  have U : Upd (oneBlock q) w (((CW w).setCell ⟨q, 3 * p, none⟩ (.int .i64 1)).setCell ⟨q, 3 * p + 2, none⟩ (.slice (some ⟨w.heap.size, 0, none⟩) s.size (CC w))) :=
    ((((Upd.refl (oneBlock q) w).step (HU.out w) (fun _ _ h => absurd h (fun h => h)))).setCell (p := ⟨q, 3 * p, none⟩) (.inl rfl) _).setCell (p := ⟨q, 3 * p + 2, none⟩) (.inl rfl) _
  clear f h cell1 c0 c1 c2
  generalize hst : ((B.pg p).st : Int) = st at c0'
  clear hst HU HB
  have hw := hrun w
  clear hrun
  go_enter Tryz.func184, Tryz.ntmps184
  go_wp2
  go_end0
  exact ⟨rfl, E.out, U⟩
end Go.Proofs.YtoledgpcgjdjjaaGreatDoor
