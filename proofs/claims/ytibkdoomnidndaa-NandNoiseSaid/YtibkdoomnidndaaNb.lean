/- Walks over package nand: what becomes of one page. -/
import Derived.Test.YtibkdoomnidndaaNa
import Derived.Lib.ConvBytes
namespace Go.Proofs.Ytibkdoomnidndaa
open Go.RowKit

theorem pgs_cells {w : World} {q np sz : Nat} {B : Bk} (h : PgsIn w q np sz B) {p : Nat} (hp : p < np) :
    w.cell? ⟨q, 3 * p, none⟩ = some (.int .i64 ((B.pg p).st : Nat)) ∧ w.cell? ⟨q, 3 * p + 1, none⟩ = some (.bool (B.pg p).torn) ∧ (∃ a n k, w.cell? ⟨q, 3 * p + 2, none⟩ = some (.slice a n k)) ∧ (∀ i, w.frozen? ⟨q, i, none⟩ = false) := by
  obtain ⟨D, hD, hS, _⟩ := h
  obtain ⟨a, n, k, e⟩ := hS p hp
  refine ⟨by rw [hD.cell (by omega), pgCell0], by rw [hD.cell (by omega), pgCell1], ⟨a, n, k, by rw [hD.cell (by omega), pgCell2, e]⟩, fun i => hD.frozen i⟩

/-- a page's three cells are written -/
theorem PgsIn.put {w : World} {q np sz : Nat} {B : Bk} (h : PgsIn w q np sz B) {p : Nat} (hp : p < np) (x : Pg) (v : Value) (hsl : ∃ a n k, v = .slice a n k) (w1 : World) (hu : Upd noBlock w w1) (hv : x.st = 1 → Bs w1 0 5 v x.data ∧ x.data.length = sz) (ht : x.torn = (B.pg p).torn) :
    PgsIn ((w1.setCell ⟨q, 3 * p, none⟩ (.int .i64 (x.st : Nat))).setCell ⟨q, 3 * p + 2, none⟩ v) q np sz (B.setPg p x) := by
  have hq := h.grow hu
  obtain ⟨D, hD, hS, hd⟩ := hq
  have hU : Upd (oneBlock q) w1 ((w1.setCell ⟨q, 3 * p, none⟩ (.int .i64 (x.st : Nat))).setCell ⟨q, 3 * p + 2, none⟩ v) :=
    ((Upd.refl (oneBlock q) w1).setCell (p := ⟨q, 3 * p, none⟩) (.inl rfl) _).setCell (p := ⟨q, 3 * p + 2, none⟩) (.inl rfl) _
  have hR : ∀ g y z, w1.heap[g]? = some (.cells y 5 z) → ¬ oneBlock q g := by
    intro g y z hg e
    obtain ⟨y', hy'⟩ := row_block hD
    exact apart hg hy' (by decide) e
  refine ⟨fun r => if r = p then v else D r, ((hD.set (3 * p) _).set (3 * p + 2) _).congr fun i hi => ?_, fun r hr => ?_, fun r hr h1 => ?_⟩
  · unfold pgCell Bk.setPg
    by_cases e : i / 3 = p
    · have e3 : i = 3 * p ∨ i = 3 * p + 1 ∨ i = 3 * p + 2 := by omega
      rcases e3 with rfl | rfl | rfl
      · simp only [if_neg (show ¬ 3 * p = 3 * p + 2 by omega), if_true, if_pos (show 3 * p % 3 = 0 by omega), show 3 * p / 3 = p by omega]
      · simp only [if_neg (show ¬ 3 * p + 1 = 3 * p + 2 by omega), if_neg (show ¬ 3 * p + 1 = 3 * p by omega), if_neg (show ¬ (3 * p + 1) % 3 = 0 by omega), if_pos (show (3 * p + 1) % 3 = 1 by omega), show (3 * p + 1) / 3 = p by omega, if_true, ht]
      · simp only [if_true, if_neg (show ¬ (3 * p + 2) % 3 = 0 by omega), if_neg (show ¬ (3 * p + 2) % 3 = 1 by omega), show (3 * p + 2) / 3 = p by omega]
    · simp only [if_neg (show ¬ i = 3 * p + 2 by omega), if_neg (show ¬ i = 3 * p by omega), if_neg e]
  · by_cases e : r = p
    · simp only [if_pos e]; exact hsl
    · simp only [if_neg e]; exact hS r hr
  · by_cases e : r = p
    · subst e
      simp only [Bk.setPg, if_true] at h1 ⊢
      exact ⟨(hv h1).1.upd hU hR, (hv h1).2⟩
    · simp only [Bk.setPg, if_neg e] at h1 ⊢
      exact ⟨(hd r hr h1).1.upd hU hR, (hd r hr h1).2⟩
theorem PgsIn.same {w : World} {q np sz : Nat} {B : Bk} (h : PgsIn w q np sz B) (p : Nat) : PgsIn w q np sz (B.setPg p (B.pg p)) :=
  h.congr fun r _ => by
    unfold Bk.setPg
    by_cases e : r = p
    · subst e; simp
    · simp [e]

set_option maxRecDepth 100000 in
theorem spoil_any (q np sz p : Nat) (B : Bk) (w : World) (h : PgsIn w q np sz B) (hp : p < np) :
    Calls Try.prog 47 #[.pointer (some ⟨q, 3 * p, none⟩)] w fun e w' => e = .returned (.tuple #[]) ∧ PgsIn w' q np sz (B.setPg p (B.pg p).spoil) ∧ Upd (oneBlock q) w w' := by
  obtain ⟨c0, c1, ⟨va, vn, vk, c2⟩, f⟩ := pgs_cells h hp
  have f0 := f (3 * p)
  have f2 := f (3 * p + 2)
  have E := Lib.hid (h.put hp (B.pg p).spoil (.slice none 0 0) ⟨_, _, _, rfl⟩ w (Upd.refl _ _) (by simp [Pg.spoil]) rfl)
  have U : Upd (oneBlock q) w ((w.setCell ⟨q, 3 * p, none⟩ (.int .i64 2)).setCell ⟨q, 3 * p + 2, none⟩ (.slice none 0 0)) :=
    ((Upd.refl (oneBlock q) w).setCell (p := ⟨q, 3 * p, none⟩) (.inl rfl) _).setCell (p := ⟨q, 3 * p + 2, none⟩) (.inl rfl) _
  clear f h
  generalize hst : ((B.pg p).st : Int) = st at c0
  clear hst
  go_enter Try.func47, Try.ntmps47
  go_wp2
  go_end0
  exact ⟨rfl, E.out, U⟩

set_option maxRecDepth 100000 in
theorem spoilW_any (q np sz p : Nat) (B : Bk) (w : World) (h : PgsIn w q np sz B) (hp : p < np) :
    Calls Try.prog 45 #[.pointer (some ⟨q, 3 * p, none⟩)] w fun e w' => e = .returned (.tuple #[]) ∧ PgsIn w' q np sz (B.setPg p (B.pg p).spoilW) ∧ Upd (oneBlock q) w w' := by
  obtain ⟨c0, _, _, _⟩ := pgs_cells h hp
  by_cases h1 : (B.pg p).st = 1
  · rw [h1] at c0
    have e : (B.pg p).spoilW = (B.pg p).spoil := by simp [Pg.spoilW, h1]
    rw [e]
    clear h1 e
    go_enter Try.func45, Try.ntmps45
    go_wp2_with (go_at_call 47; refine (spoil_any q np sz p B _ h hp).mono ?_; rintro e w' ⟨rfl, h1, h2⟩)
    go_end0
    exact ⟨rfl, by assumption, by assumption⟩
  · have e : (B.pg p).spoilW = B.pg p := by simp [Pg.spoilW, h1]
    rw [e]
    have hb : (((B.pg p).st : Int) == 1) = false := beq_eq_false_iff_ne.2 (by omega)
    generalize ((B.pg p).st : Int) = st at c0 hb
    have E := Lib.hid (h.same p)
    clear h1 e h
    go_enter Try.func45, Try.ntmps45
    go_wp2
    go_end0
    exact ⟨rfl, E.out, Upd.refl _ _⟩
set_option maxRecDepth 100000 in
theorem spoilN_any (q np sz p : Nat) (B : Bk) (w : World) (h : PgsIn w q np sz B) (hp : p < np) :
    Calls Try.prog 46 #[.pointer (some ⟨q, 3 * p, none⟩)] w fun e w' => e = .returned (.tuple #[]) ∧ PgsIn w' q np sz (B.setPg p (B.pg p).spoilN) ∧ Upd (oneBlock q) w w' := by
  obtain ⟨c0, _, _, _⟩ := pgs_cells h hp
  by_cases h1 : (B.pg p).st = 0
  · rw [h1] at c0
    have e : (B.pg p).spoilN = B.pg p := by simp [Pg.spoilN, h1]
    rw [e]
    have E := Lib.hid (h.same p)
    clear h1 e h
    go_enter Try.func46, Try.ntmps46
    go_wp2
    go_end0
    exact ⟨rfl, E.out, Upd.refl _ _⟩
  · have e : (B.pg p).spoilN = (B.pg p).spoil := by simp [Pg.spoilN, h1]
    rw [e]
    have hb : (((B.pg p).st : Int) != 0) = true := bne_iff_ne.2 (by omega)
    generalize ((B.pg p).st : Int) = st at c0 hb
    clear h1 e
    go_enter Try.func46, Try.ntmps46
    go_wp2_with (go_at_call 47; refine (spoil_any q np sz p B _ h hp).mono ?_; rintro e w' ⟨rfl, h1, h2⟩)
    go_end0
    exact ⟨rfl, by assumption, by assumption⟩

set_option maxRecDepth 100000 in
theorem write_any (q np p : Nat) (B : Bk) (s : ByteArray) (w : World) (hs : s.size ≤ 2048) (h : PgsIn w q np s.size B) (hp : p < np) :
    Calls Try.prog 41 #[.pointer (some ⟨q, 3 * p, none⟩), .string s] w fun e w' => e = .returned (.tuple #[]) ∧ PgsIn w' q np s.size (B.setPg p ((B.pg p).write s.data.toList)) ∧ Upd (oneBlock q) w w' := by
  obtain ⟨CW, CC, hrun, HU, HB⟩ := conv_row (P := Try.prog) 9 35 5 Try.underlying9 Try.underlying35 Try.underlying5 s (by unfold maxLen; omega)
  have hq := h.lt
  have cell1 : ∀ i v, w.cell? ⟨q, i, none⟩ = some v → (CW w).cell? ⟨q, i, none⟩ = some v := fun i v hv => upd_cell (HU.out w) hv
  obtain ⟨c0, c1, ⟨va, vn, vk, c2⟩, _⟩ := pgs_cells h hp
  obtain ⟨_, _, _, f⟩ := pgs_cells (h.grow (HU.out w)) hp
  have f0 := f (3 * p)
  have f2 := f (3 * p + 2)
  have c0' := cell1 _ _ c0
  have c2' := cell1 _ _ c2
  have E := Lib.hid (h.put hp ((B.pg p).write s.data.toList) (.slice (some ⟨w.heap.size, 0, none⟩) s.size (CC w)) ⟨_, _, _, rfl⟩ (CW w) (HU.out w) (fun _ => ⟨((HB.out w).more (Nat.zero_le _)), rfl⟩) rfl)
  have U : Upd (oneBlock q) w (((CW w).setCell ⟨q, 3 * p, none⟩ (.int .i64 1)).setCell ⟨q, 3 * p + 2, none⟩ (.slice (some ⟨w.heap.size, 0, none⟩) s.size (CC w))) :=
    ((((Upd.refl (oneBlock q) w).step (HU.out w) (fun _ _ h => absurd h (fun h => h)))).setCell (p := ⟨q, 3 * p, none⟩) (.inl rfl) _).setCell (p := ⟨q, 3 * p + 2, none⟩) (.inl rfl) _
  clear f h cell1 c0 c1 c2
  generalize hst : ((B.pg p).st : Int) = st at c0'
  clear hst HU HB
  have hw := hrun w
  clear hrun
  go_enter Try.func41, Try.ntmps41
  go_wp2
  go_end0
  exact ⟨rfl, E.out, U⟩
end Go.Proofs.Ytibkdoomnidndaa
