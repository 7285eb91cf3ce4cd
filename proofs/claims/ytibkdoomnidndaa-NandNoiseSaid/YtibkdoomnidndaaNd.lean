/- Walks over package nand: what a torn Program leaves. -/
import Derived.Test.YtibkdoomnidndaaNc
namespace Go.Proofs.Ytibkdoomnidndaa
open Go.RowKit

theorem kept {w w' : World} {bb i q : Nat} {v : Value} (h : w.cell? ⟨bb, i, none⟩ = some v) (hu : Upd (oneBlock q) w w') (hq : ¬ bb = q) : w'.cell? ⟨bb, i, none⟩ = some v :=
  (World.cell?_of_block (hu.block bb (World.block_lt_of_cell? w _ h) hq)).trans h
def Pg.mark (x : Pg) : Pg := { x with torn := true }
/-- what a torn Program of page p leaves of it -/
def Pg.tear (x : Pg) (l : List UInt8) (m : Nat) : Pg := if m % 3 = 1 then x.spoil else if m % 3 = 2 then x.write l else x
def tearP (B : Bk) (p : Nat) (l : List UInt8) (m : Nat) : Bk :=
  if 2 ≤ p % 4 ∧ 4 ≤ m then ((B.setPg p ((B.pg p).tear l m)).setPg p ((B.pg p).tear l m).mark).setPg (p - 2) (B.pg (p - 2)).spoilW else (B.setPg p ((B.pg p).tear l m)).setPg p ((B.pg p).tear l m).mark
theorem PgsIn.mark {w : World} {q np sz : Nat} {B : Bk} (h : PgsIn w q np sz B) {p : Nat} (hp : p < np) :
    PgsIn (w.setCell ⟨q, p * 3 + 1, none⟩ (.bool true)) q np sz (B.setPg p (B.pg p).mark) ∧ Upd (oneBlock q) w (w.setCell ⟨q, p * 3 + 1, none⟩ (.bool true)) := by
  obtain ⟨D, hD, hS, hd⟩ := h
  have hU : Upd (oneBlock q) w (w.setCell ⟨q, p * 3 + 1, none⟩ (.bool true)) := (Upd.refl (oneBlock q) w).setCell (p := ⟨q, p * 3 + 1, none⟩) (.inl rfl) _
  have hR : ∀ g y z, w.heap[g]? = some (.cells y 5 z) → ¬ oneBlock q g := by
    intro g y z hg e
    obtain ⟨y', hy'⟩ := row_block hD
    exact apart hg hy' (by decide) e
  refine ⟨⟨D, (hD.set (p * 3 + 1) _).congr fun i hi => ?_, hS, fun r hr h1 => ?_⟩, hU⟩
  · unfold pgCell Bk.setPg Pg.mark
    by_cases e : i / 3 = p
    · have e3 : i = p * 3 ∨ i = p * 3 + 1 ∨ i = p * 3 + 2 := by omega
      rcases e3 with rfl | rfl | rfl
      · simp [show p * 3 / 3 = p by omega]
      · simp only [if_true, if_neg (show ¬ (p * 3 + 1) % 3 = 0 by omega), if_pos (show (p * 3 + 1) % 3 = 1 by omega), show (p * 3 + 1) / 3 = p by omega]
      · simp only [if_neg (show ¬ p * 3 + 2 = p * 3 + 1 by omega), if_neg (show ¬ (p * 3 + 2) % 3 = 0 by omega), if_neg (show ¬ (p * 3 + 2) % 3 = 1 by omega), show (p * 3 + 2) / 3 = p by omega]
    · simp only [if_neg (show ¬ i = p * 3 + 1 by omega), if_neg e]
  · have e1 : (B.pg r).st = 1 := by
      unfold Bk.setPg Pg.mark at h1
      by_cases e : r = p
      · subst e; simpa using h1
      · simpa [e] using h1
    have e2 : ((B.setPg p (B.pg p).mark).pg r).data = (B.pg r).data := by
      unfold Bk.setPg Pg.mark
      by_cases e : r = p
      · subst e; simp
      · simp [e]
    rw [e2]
    exact ⟨(hd r hr e1).1.upd hU hR, (hd r hr e1).2⟩
theorem Bk.setPg_at (B : Bk) (p : Nat) (x : Pg) : (B.setPg p x).pg p = x := by simp [Bk.setPg]
theorem Bk.setPg_other (B : Bk) (p r : Nat) (x : Pg) (h : ¬ r = p) : (B.setPg p x).pg r = B.pg r := by simp [Bk.setPg, h]

set_option maxRecDepth 100000 in
set_option maxHeartbeats 800000 in
theorem tearP_0low (bb b q np p m : Nat) (s : ByteArray) (B : Bk) (w : World) (_ : s.size ≤ 2048) (h1 : w.cell? ⟨bb, 4 * b, none⟩ = some (.slice (some ⟨q, 0, none⟩) np np)) (hq : ¬ bb = q) (hP : PgsIn w q np s.size B) (hp : p < np) (hnp : np ≤ 64) (hm : m < 8) (hr : m % 3 = 0) (hu : p % 4 < 2) :
    Calls Try.prog 40 #[.pointer (some ⟨bb, 4 * b, none⟩), .int .i64 (p : Int), .string s, .int .i64 (m : Int)] w fun e w' => e = .returned (.tuple #[]) ∧ PgsIn w' q np s.size (tearP B p s.data.toList m) ∧ Upd (oneBlock q) w w' := by
  have hr1 : ((m : Int) % 3 == 1) = false := beq_eq_false_iff_ne.2 (by omega)
  have hr2 : ((m : Int) % 3 == 2) = false := beq_eq_false_iff_ne.2 (by omega)
  have HT : Hid (tearP B p s.data.toList m = ((B.setPg p (B.pg p)).setPg p (B.pg p).mark)) := Lib.hid (by
    have e : (B.pg p).tear s.data.toList m = (B.pg p) := by simp [Pg.tear, hr]
    unfold tearP
    rw [e, if_neg (by omega)])
  have hP0 : PgsIn w q np s.size (B.setPg p (B.pg p)) := hP.same p
  have hu0 : Upd (oneBlock q) w w := Upd.refl _ _
  have HP := Lib.hid hP
  have HR := Lib.hid hr
  clear hP hr
  have H1 := Lib.hid hP0
  have hu1 := hu0
  obtain ⟨_, d1, _, df⟩ := pgs_cells H1.out hp
  rw [show 3 * p + 1 = p * 3 + 1 by omega] at d1
  have df1 := df (p * 3 + 1)
  have MK := Lib.hid (PgsIn.mark H1.out hp)
  have cc := kept h1 MK.out.2 hq
  have U1 := Lib.hid hu1
  clear df hu1 hu0 hP0
  go_enter Try.func40, Try.ntmps40
  go_wp2_with (go_at_call 30; refine (pair_low p _ (Lib.hid (by omega)) hu).mono ?_; rintro e w2 ⟨rfl, rfl⟩)
  go_end0
  exact ⟨rfl, by rw [HT.out]; have := MK.out.1; rw [Bk.setPg_at] at this; exact this, U1.out.trans MK.out.2⟩

set_option maxRecDepth 100000 in
set_option maxHeartbeats 800000 in
theorem tearP_0up (bb b q np p m : Nat) (s : ByteArray) (B : Bk) (w : World) (_ : s.size ≤ 2048) (h1 : w.cell? ⟨bb, 4 * b, none⟩ = some (.slice (some ⟨q, 0, none⟩) np np)) (hq : ¬ bb = q) (hP : PgsIn w q np s.size B) (hp : p < np) (hnp : np ≤ 64) (hm : m < 8) (hr : m % 3 = 0) (hu : ¬ p % 4 < 2) (h4 : m < 4) :
    Calls Try.prog 40 #[.pointer (some ⟨bb, 4 * b, none⟩), .int .i64 (p : Int), .string s, .int .i64 (m : Int)] w fun e w' => e = .returned (.tuple #[]) ∧ PgsIn w' q np s.size (tearP B p s.data.toList m) ∧ Upd (oneBlock q) w w' := by
  have hr1 : ((m : Int) % 3 == 1) = false := beq_eq_false_iff_ne.2 (by omega)
  have hr2 : ((m : Int) % 3 == 2) = false := beq_eq_false_iff_ne.2 (by omega)
  have h4t : decide (4 ≤ (m : Int)) = false := decide_eq_false (by omega)
  have HT : Hid (tearP B p s.data.toList m = ((B.setPg p (B.pg p)).setPg p (B.pg p).mark)) := Lib.hid (by
    have e : (B.pg p).tear s.data.toList m = (B.pg p) := by simp [Pg.tear, hr]
    unfold tearP
    rw [e, if_neg (by omega)])
  have hP0 : PgsIn w q np s.size (B.setPg p (B.pg p)) := hP.same p
  have hu0 : Upd (oneBlock q) w w := Upd.refl _ _
  have HP := Lib.hid hP
  have HR := Lib.hid hr
  clear hP hr
  have H1 := Lib.hid hP0
  have hu1 := hu0
  obtain ⟨_, d1, _, df⟩ := pgs_cells H1.out hp
  rw [show 3 * p + 1 = p * 3 + 1 by omega] at d1
  have df1 := df (p * 3 + 1)
  have MK := Lib.hid (PgsIn.mark H1.out hp)
  have cc := kept h1 MK.out.2 hq
  have U1 := Lib.hid hu1
  clear df hu1 hu0 hP0
  go_enter Try.func40, Try.ntmps40
  go_wp2_with (go_at_call 30; refine (pair_up p _ (Lib.hid (by omega)) hu).mono ?_; rintro e w2 ⟨rfl, rfl⟩)
  go_end0
  exact ⟨rfl, by rw [HT.out]; have := MK.out.1; rw [Bk.setPg_at] at this; exact this, U1.out.trans MK.out.2⟩

set_option maxRecDepth 100000 in
set_option maxHeartbeats 800000 in
theorem tearP_0big (bb b q np p m : Nat) (s : ByteArray) (B : Bk) (w : World) (_ : s.size ≤ 2048) (h1 : w.cell? ⟨bb, 4 * b, none⟩ = some (.slice (some ⟨q, 0, none⟩) np np)) (hq : ¬ bb = q) (hP : PgsIn w q np s.size B) (hp : p < np) (hnp : np ≤ 64) (hm : m < 8) (hr : m % 3 = 0) (hu : ¬ p % 4 < 2) (h4 : ¬ m < 4) :
    Calls Try.prog 40 #[.pointer (some ⟨bb, 4 * b, none⟩), .int .i64 (p : Int), .string s, .int .i64 (m : Int)] w fun e w' => e = .returned (.tuple #[]) ∧ PgsIn w' q np s.size (tearP B p s.data.toList m) ∧ Upd (oneBlock q) w w' := by
  have hr1 : ((m : Int) % 3 == 1) = false := beq_eq_false_iff_ne.2 (by omega)
  have hr2 : ((m : Int) % 3 == 2) = false := beq_eq_false_iff_ne.2 (by omega)
  have h4t : decide (4 ≤ (m : Int)) = true := decide_eq_true (by omega)
  have HT : Hid (tearP B p s.data.toList m = ((B.setPg p (B.pg p)).setPg p (B.pg p).mark).setPg (p - 2) (B.pg (p - 2)).spoilW) := Lib.hid (by
    have e : (B.pg p).tear s.data.toList m = (B.pg p) := by simp [Pg.tear, hr]
    unfold tearP
    rw [e, if_pos (by omega)])
  have hP0 : PgsIn w q np s.size (B.setPg p (B.pg p)) := hP.same p
  have hu0 : Upd (oneBlock q) w w := Upd.refl _ _
  have HP := Lib.hid hP
  have HR := Lib.hid hr
  clear hP hr
  have H1 := Lib.hid hP0
  have hu1 := hu0
  obtain ⟨_, d1, _, df⟩ := pgs_cells H1.out hp
  rw [show 3 * p + 1 = p * 3 + 1 by omega] at d1
  have df1 := df (p * 3 + 1)
  have MK := Lib.hid (PgsIn.mark H1.out hp)
  have cc := kept h1 MK.out.2 hq
  have U1 := Lib.hid hu1
  clear df hu1 hu0 hP0
  go_enter Try.func40, Try.ntmps40
  go_wp2_with (first | (go_at_call 30; refine (pair_up p _ (Lib.hid (by omega)) hu).mono ?_; rintro e w2 ⟨rfl, rfl⟩) | (go_at_call 45; rw [show (p - 2) * 3 = 3 * (p - 2) by omega]; refine (spoilW_any q np s.size (p - 2) _ _ MK.out.1 (by omega)).mono ?_; rintro e w2 ⟨rfl, hx, hu2⟩; have H2 := Lib.hid hx; have U2 := Lib.hid hu2; clear hx hu2))
  go_end0
  exact ⟨rfl, by rw [HT.out]; have := H2.out; rw [Bk.setPg_at, Bk.setPg_other _ _ _ _ (show ¬ p - 2 = p by omega), Bk.setPg_other _ _ _ _ (show ¬ p - 2 = p by omega)] at this; exact this, (U1.out.trans MK.out.2).trans U2.out⟩

set_option maxRecDepth 100000 in
set_option maxHeartbeats 800000 in
theorem tearP_1low (bb b q np p m : Nat) (s : ByteArray) (B : Bk) (w : World) (_ : s.size ≤ 2048) (h1 : w.cell? ⟨bb, 4 * b, none⟩ = some (.slice (some ⟨q, 0, none⟩) np np)) (hq : ¬ bb = q) (hP : PgsIn w q np s.size B) (hp : p < np) (hnp : np ≤ 64) (hm : m < 8) (hr : m % 3 = 1) (hu : p % 4 < 2) :
    Calls Try.prog 40 #[.pointer (some ⟨bb, 4 * b, none⟩), .int .i64 (p : Int), .string s, .int .i64 (m : Int)] w fun e w' => e = .returned (.tuple #[]) ∧ PgsIn w' q np s.size (tearP B p s.data.toList m) ∧ Upd (oneBlock q) w w' := by
  have hr1 : ((m : Int) % 3 == 1) = true := beq_iff_eq.2 (by omega)
  have HT : Hid (tearP B p s.data.toList m = ((B.setPg p (B.pg p).spoil).setPg p (B.pg p).spoil.mark)) := Lib.hid (by
    have e : (B.pg p).tear s.data.toList m = (B.pg p).spoil := by simp [Pg.tear, hr]
    unfold tearP
    rw [e, if_neg (by omega)])
  have HP := Lib.hid hP
  have HR := Lib.hid hr
  clear hP hr
  go_enter Try.func40, Try.ntmps40
  go_wp2_with (first | (go_at_call 47; rw [show p * 3 = 3 * p by omega]; refine (spoil_any q np s.size p B _ HP.out hp).mono ?_; rintro e w1 ⟨rfl, hx, hu1⟩; have H1 := Lib.hid hx; clear hx; obtain ⟨_, d1, _, df⟩ := pgs_cells H1.out hp; rw [show 3 * p + 1 = p * 3 + 1 by omega] at d1; have df1 := df (p * 3 + 1); have MK := Lib.hid (PgsIn.mark H1.out hp); have c1 := kept h1 hu1 hq; have cc := kept c1 MK.out.2 hq; have U1 := Lib.hid hu1; clear df hu1) | (go_at_call 30; refine (pair_low p _ (Lib.hid (by omega)) hu).mono ?_; rintro e w2 ⟨rfl, rfl⟩))
  go_end0
  exact ⟨rfl, by rw [HT.out]; have := MK.out.1; rw [Bk.setPg_at] at this; exact this, U1.out.trans MK.out.2⟩

set_option maxRecDepth 100000 in
set_option maxHeartbeats 800000 in
theorem tearP_1up (bb b q np p m : Nat) (s : ByteArray) (B : Bk) (w : World) (_ : s.size ≤ 2048) (h1 : w.cell? ⟨bb, 4 * b, none⟩ = some (.slice (some ⟨q, 0, none⟩) np np)) (hq : ¬ bb = q) (hP : PgsIn w q np s.size B) (hp : p < np) (hnp : np ≤ 64) (hm : m < 8) (hr : m % 3 = 1) (hu : ¬ p % 4 < 2) (h4 : m < 4) :
    Calls Try.prog 40 #[.pointer (some ⟨bb, 4 * b, none⟩), .int .i64 (p : Int), .string s, .int .i64 (m : Int)] w fun e w' => e = .returned (.tuple #[]) ∧ PgsIn w' q np s.size (tearP B p s.data.toList m) ∧ Upd (oneBlock q) w w' := by
  have hr1 : ((m : Int) % 3 == 1) = true := beq_iff_eq.2 (by omega)
  have h4t : decide (4 ≤ (m : Int)) = false := decide_eq_false (by omega)
  have HT : Hid (tearP B p s.data.toList m = ((B.setPg p (B.pg p).spoil).setPg p (B.pg p).spoil.mark)) := Lib.hid (by
    have e : (B.pg p).tear s.data.toList m = (B.pg p).spoil := by simp [Pg.tear, hr]
    unfold tearP
    rw [e, if_neg (by omega)])
  have HP := Lib.hid hP
  have HR := Lib.hid hr
  clear hP hr
  go_enter Try.func40, Try.ntmps40
  go_wp2_with (first | (go_at_call 47; rw [show p * 3 = 3 * p by omega]; refine (spoil_any q np s.size p B _ HP.out hp).mono ?_; rintro e w1 ⟨rfl, hx, hu1⟩; have H1 := Lib.hid hx; clear hx; obtain ⟨_, d1, _, df⟩ := pgs_cells H1.out hp; rw [show 3 * p + 1 = p * 3 + 1 by omega] at d1; have df1 := df (p * 3 + 1); have MK := Lib.hid (PgsIn.mark H1.out hp); have c1 := kept h1 hu1 hq; have cc := kept c1 MK.out.2 hq; have U1 := Lib.hid hu1; clear df hu1) | (go_at_call 30; refine (pair_up p _ (Lib.hid (by omega)) hu).mono ?_; rintro e w2 ⟨rfl, rfl⟩))
  go_end0
  exact ⟨rfl, by rw [HT.out]; have := MK.out.1; rw [Bk.setPg_at] at this; exact this, U1.out.trans MK.out.2⟩

set_option maxRecDepth 100000 in
set_option maxHeartbeats 800000 in
theorem tearP_1big (bb b q np p m : Nat) (s : ByteArray) (B : Bk) (w : World) (_ : s.size ≤ 2048) (h1 : w.cell? ⟨bb, 4 * b, none⟩ = some (.slice (some ⟨q, 0, none⟩) np np)) (hq : ¬ bb = q) (hP : PgsIn w q np s.size B) (hp : p < np) (hnp : np ≤ 64) (hm : m < 8) (hr : m % 3 = 1) (hu : ¬ p % 4 < 2) (h4 : ¬ m < 4) :
    Calls Try.prog 40 #[.pointer (some ⟨bb, 4 * b, none⟩), .int .i64 (p : Int), .string s, .int .i64 (m : Int)] w fun e w' => e = .returned (.tuple #[]) ∧ PgsIn w' q np s.size (tearP B p s.data.toList m) ∧ Upd (oneBlock q) w w' := by
  have hr1 : ((m : Int) % 3 == 1) = true := beq_iff_eq.2 (by omega)
  have h4t : decide (4 ≤ (m : Int)) = true := decide_eq_true (by omega)
  have HT : Hid (tearP B p s.data.toList m = ((B.setPg p (B.pg p).spoil).setPg p (B.pg p).spoil.mark).setPg (p - 2) (B.pg (p - 2)).spoilW) := Lib.hid (by
    have e : (B.pg p).tear s.data.toList m = (B.pg p).spoil := by simp [Pg.tear, hr]
    unfold tearP
    rw [e, if_pos (by omega)])
  have HP := Lib.hid hP
  have HR := Lib.hid hr
  clear hP hr
  go_enter Try.func40, Try.ntmps40
  go_wp2_with (first | (go_at_call 47; rw [show p * 3 = 3 * p by omega]; refine (spoil_any q np s.size p B _ HP.out hp).mono ?_; rintro e w1 ⟨rfl, hx, hu1⟩; have H1 := Lib.hid hx; clear hx; obtain ⟨_, d1, _, df⟩ := pgs_cells H1.out hp; rw [show 3 * p + 1 = p * 3 + 1 by omega] at d1; have df1 := df (p * 3 + 1); have MK := Lib.hid (PgsIn.mark H1.out hp); have c1 := kept h1 hu1 hq; have cc := kept c1 MK.out.2 hq; have U1 := Lib.hid hu1; clear df hu1) | (go_at_call 30; refine (pair_up p _ (Lib.hid (by omega)) hu).mono ?_; rintro e w2 ⟨rfl, rfl⟩) | (go_at_call 45; rw [show (p - 2) * 3 = 3 * (p - 2) by omega]; refine (spoilW_any q np s.size (p - 2) _ _ MK.out.1 (by omega)).mono ?_; rintro e w2 ⟨rfl, hx, hu2⟩; have H2 := Lib.hid hx; have U2 := Lib.hid hu2; clear hx hu2))
  go_end0
  exact ⟨rfl, by rw [HT.out]; have := H2.out; rw [Bk.setPg_at, Bk.setPg_other _ _ _ _ (show ¬ p - 2 = p by omega), Bk.setPg_other _ _ _ _ (show ¬ p - 2 = p by omega)] at this; exact this, (U1.out.trans MK.out.2).trans U2.out⟩

set_option maxRecDepth 100000 in
set_option maxHeartbeats 800000 in
theorem tearP_2low (bb b q np p m : Nat) (s : ByteArray) (B : Bk) (w : World) (hs : s.size ≤ 2048) (h1 : w.cell? ⟨bb, 4 * b, none⟩ = some (.slice (some ⟨q, 0, none⟩) np np)) (hq : ¬ bb = q) (hP : PgsIn w q np s.size B) (hp : p < np) (hnp : np ≤ 64) (hm : m < 8) (hr : m % 3 = 2) (hu : p % 4 < 2) :
    Calls Try.prog 40 #[.pointer (some ⟨bb, 4 * b, none⟩), .int .i64 (p : Int), .string s, .int .i64 (m : Int)] w fun e w' => e = .returned (.tuple #[]) ∧ PgsIn w' q np s.size (tearP B p s.data.toList m) ∧ Upd (oneBlock q) w w' := by
  have hr1 : ((m : Int) % 3 == 1) = false := beq_eq_false_iff_ne.2 (by omega)
  have hr2 : ((m : Int) % 3 == 2) = true := beq_iff_eq.2 (by omega)
  have HT : Hid (tearP B p s.data.toList m = ((B.setPg p ((B.pg p).write s.data.toList)).setPg p ((B.pg p).write s.data.toList).mark)) := Lib.hid (by
    have e : (B.pg p).tear s.data.toList m = ((B.pg p).write s.data.toList) := by simp [Pg.tear, hr]
    unfold tearP
    rw [e, if_neg (by omega)])
  have HP := Lib.hid hP
  have HR := Lib.hid hr
  clear hP hr
  go_enter Try.func40, Try.ntmps40
  go_wp2_with (first | (go_at_call 41; rw [show p * 3 = 3 * p by omega]; refine (write_any q np p B s _ hs HP.out hp).mono ?_; rintro e w1 ⟨rfl, hx, hu1⟩; have H1 := Lib.hid hx; clear hx; obtain ⟨_, d1, _, df⟩ := pgs_cells H1.out hp; rw [show 3 * p + 1 = p * 3 + 1 by omega] at d1; have df1 := df (p * 3 + 1); have MK := Lib.hid (PgsIn.mark H1.out hp); have c1 := kept h1 hu1 hq; have cc := kept c1 MK.out.2 hq; have U1 := Lib.hid hu1; clear df hu1) | (go_at_call 30; refine (pair_low p _ (Lib.hid (by omega)) hu).mono ?_; rintro e w2 ⟨rfl, rfl⟩))
  go_end0
  exact ⟨rfl, by rw [HT.out]; have := MK.out.1; rw [Bk.setPg_at] at this; exact this, U1.out.trans MK.out.2⟩

set_option maxRecDepth 100000 in
set_option maxHeartbeats 800000 in
theorem tearP_2up (bb b q np p m : Nat) (s : ByteArray) (B : Bk) (w : World) (hs : s.size ≤ 2048) (h1 : w.cell? ⟨bb, 4 * b, none⟩ = some (.slice (some ⟨q, 0, none⟩) np np)) (hq : ¬ bb = q) (hP : PgsIn w q np s.size B) (hp : p < np) (hnp : np ≤ 64) (hm : m < 8) (hr : m % 3 = 2) (hu : ¬ p % 4 < 2) (h4 : m < 4) :
    Calls Try.prog 40 #[.pointer (some ⟨bb, 4 * b, none⟩), .int .i64 (p : Int), .string s, .int .i64 (m : Int)] w fun e w' => e = .returned (.tuple #[]) ∧ PgsIn w' q np s.size (tearP B p s.data.toList m) ∧ Upd (oneBlock q) w w' := by
  have hr1 : ((m : Int) % 3 == 1) = false := beq_eq_false_iff_ne.2 (by omega)
  have hr2 : ((m : Int) % 3 == 2) = true := beq_iff_eq.2 (by omega)
  have h4t : decide (4 ≤ (m : Int)) = false := decide_eq_false (by omega)
  have HT : Hid (tearP B p s.data.toList m = ((B.setPg p ((B.pg p).write s.data.toList)).setPg p ((B.pg p).write s.data.toList).mark)) := Lib.hid (by
    have e : (B.pg p).tear s.data.toList m = ((B.pg p).write s.data.toList) := by simp [Pg.tear, hr]
    unfold tearP
    rw [e, if_neg (by omega)])
  have HP := Lib.hid hP
  have HR := Lib.hid hr
  clear hP hr
  go_enter Try.func40, Try.ntmps40
  go_wp2_with (first | (go_at_call 41; rw [show p * 3 = 3 * p by omega]; refine (write_any q np p B s _ hs HP.out hp).mono ?_; rintro e w1 ⟨rfl, hx, hu1⟩; have H1 := Lib.hid hx; clear hx; obtain ⟨_, d1, _, df⟩ := pgs_cells H1.out hp; rw [show 3 * p + 1 = p * 3 + 1 by omega] at d1; have df1 := df (p * 3 + 1); have MK := Lib.hid (PgsIn.mark H1.out hp); have c1 := kept h1 hu1 hq; have cc := kept c1 MK.out.2 hq; have U1 := Lib.hid hu1; clear df hu1) | (go_at_call 30; refine (pair_up p _ (Lib.hid (by omega)) hu).mono ?_; rintro e w2 ⟨rfl, rfl⟩))
  go_end0
  exact ⟨rfl, by rw [HT.out]; have := MK.out.1; rw [Bk.setPg_at] at this; exact this, U1.out.trans MK.out.2⟩

set_option maxRecDepth 100000 in
set_option maxHeartbeats 800000 in
theorem tearP_2big (bb b q np p m : Nat) (s : ByteArray) (B : Bk) (w : World) (hs : s.size ≤ 2048) (h1 : w.cell? ⟨bb, 4 * b, none⟩ = some (.slice (some ⟨q, 0, none⟩) np np)) (hq : ¬ bb = q) (hP : PgsIn w q np s.size B) (hp : p < np) (hnp : np ≤ 64) (hm : m < 8) (hr : m % 3 = 2) (hu : ¬ p % 4 < 2) (h4 : ¬ m < 4) :
    Calls Try.prog 40 #[.pointer (some ⟨bb, 4 * b, none⟩), .int .i64 (p : Int), .string s, .int .i64 (m : Int)] w fun e w' => e = .returned (.tuple #[]) ∧ PgsIn w' q np s.size (tearP B p s.data.toList m) ∧ Upd (oneBlock q) w w' := by
  have hr1 : ((m : Int) % 3 == 1) = false := beq_eq_false_iff_ne.2 (by omega)
  have hr2 : ((m : Int) % 3 == 2) = true := beq_iff_eq.2 (by omega)
  have h4t : decide (4 ≤ (m : Int)) = true := decide_eq_true (by omega)
  have HT : Hid (tearP B p s.data.toList m = ((B.setPg p ((B.pg p).write s.data.toList)).setPg p ((B.pg p).write s.data.toList).mark).setPg (p - 2) (B.pg (p - 2)).spoilW) := Lib.hid (by
    have e : (B.pg p).tear s.data.toList m = ((B.pg p).write s.data.toList) := by simp [Pg.tear, hr]
    unfold tearP
    rw [e, if_pos (by omega)])
  have HP := Lib.hid hP
  have HR := Lib.hid hr
  clear hP hr
  go_enter Try.func40, Try.ntmps40
  go_wp2_with (first | (go_at_call 41; rw [show p * 3 = 3 * p by omega]; refine (write_any q np p B s _ hs HP.out hp).mono ?_; rintro e w1 ⟨rfl, hx, hu1⟩; have H1 := Lib.hid hx; clear hx; obtain ⟨_, d1, _, df⟩ := pgs_cells H1.out hp; rw [show 3 * p + 1 = p * 3 + 1 by omega] at d1; have df1 := df (p * 3 + 1); have MK := Lib.hid (PgsIn.mark H1.out hp); have c1 := kept h1 hu1 hq; have cc := kept c1 MK.out.2 hq; have U1 := Lib.hid hu1; clear df hu1) | (go_at_call 30; refine (pair_up p _ (Lib.hid (by omega)) hu).mono ?_; rintro e w2 ⟨rfl, rfl⟩) | (go_at_call 45; rw [show (p - 2) * 3 = 3 * (p - 2) by omega]; refine (spoilW_any q np s.size (p - 2) _ _ MK.out.1 (by omega)).mono ?_; rintro e w2 ⟨rfl, hx, hu2⟩; have H2 := Lib.hid hx; have U2 := Lib.hid hu2; clear hx hu2))
  go_end0
  exact ⟨rfl, by rw [HT.out]; have := H2.out; rw [Bk.setPg_at, Bk.setPg_other _ _ _ _ (show ¬ p - 2 = p by omega), Bk.setPg_other _ _ _ _ (show ¬ p - 2 = p by omega)] at this; exact this, (U1.out.trans MK.out.2).trans U2.out⟩

set_option maxRecDepth 100000 in
set_option maxHeartbeats 800000 in
theorem tearP_any (bb b q np p m : Nat) (s : ByteArray) (B : Bk) (w : World) (hs : s.size ≤ 2048) (h1 : w.cell? ⟨bb, 4 * b, none⟩ = some (.slice (some ⟨q, 0, none⟩) np np)) (hq : ¬ bb = q) (hP : PgsIn w q np s.size B) (hp : p < np) (hnp : np ≤ 64) (hm : m < 8) :
    Calls Try.prog 40 #[.pointer (some ⟨bb, 4 * b, none⟩), .int .i64 (p : Int), .string s, .int .i64 (m : Int)] w fun e w' => e = .returned (.tuple #[]) ∧ PgsIn w' q np s.size (tearP B p s.data.toList m) ∧ Upd (oneBlock q) w w' := by
  have h3 : m % 3 = 0 ∨ m % 3 = 1 ∨ m % 3 = 2 := by omega
  by_cases hu : p % 4 < 2
  · rcases h3 with hr | hr | hr
    · exact tearP_0low bb b q np p m s B w hs h1 hq hP hp hnp hm hr hu
    · exact tearP_1low bb b q np p m s B w hs h1 hq hP hp hnp hm hr hu
    · exact tearP_2low bb b q np p m s B w hs h1 hq hP hp hnp hm hr hu
  · by_cases h4 : m < 4
    · rcases h3 with hr | hr | hr
      · exact tearP_0up bb b q np p m s B w hs h1 hq hP hp hnp hm hr hu h4
      · exact tearP_1up bb b q np p m s B w hs h1 hq hP hp hnp hm hr hu h4
      · exact tearP_2up bb b q np p m s B w hs h1 hq hP hp hnp hm hr hu h4
    · rcases h3 with hr | hr | hr
      · exact tearP_0big bb b q np p m s B w hs h1 hq hP hp hnp hm hr hu h4
      · exact tearP_1big bb b q np p m s B w hs h1 hq hP hp hnp hm hr hu h4
      · exact tearP_2big bb b q np p m s B w hs h1 hq hP hp hnp hm hr hu h4

end Go.Proofs.Ytibkdoomnidndaa
