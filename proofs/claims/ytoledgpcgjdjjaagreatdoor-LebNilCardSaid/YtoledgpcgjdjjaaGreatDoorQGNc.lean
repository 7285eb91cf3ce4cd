import Derived.Test.YtoledgpcgjdjjaaGreatDoorQGNa
import Derived.LoopTactic
import Derived.Lib.SliceRun
/- Walks over package nand: what becomes of a block's pages. -/
namespace Go.Proofs.YtoledgpcgjdjjaaGreatDoor
open Go.RowKit

theorem blank_yes {B : Bk} {np p : Nat} (h : ∀ r, p ≤ r → r < np → (B.pg r).blank = true) : blankFrom B np p = true := by
  unfold blankFrom
  rw [List.all_eq_true]
  intro r hr
  rw [List.mem_range] at hr
  by_cases e : r < p
  · simp [e]
  · simp [h r (by omega) hr]
theorem blank_no {B : Bk} {np p r : Nat} (h1 : p ≤ r) (h2 : r < np) (h : (B.pg r).blank = false) : blankFrom B np p = false := by
  unfold blankFrom
  rw [List.all_eq_false]
  exact ⟨r, List.mem_range.2 h2, by simp [h]; omega⟩

def BlankWorld (w w' : World) : Prop := Upd noBlock w w'
set_option maxRecDepth 100000 in
set_option maxHeartbeats 800000 in
theorem blankFrom_any (bb b q np sz p : Nat) (B : Bk) (w : World) (h1 : w.cell? ⟨bb, 4 * b, none⟩ = some (.slice (some ⟨q, 0, none⟩) np np)) (hP : PgsIn w q np sz B) (hp : p < np) (hnp : np ≤ 64) :
    Calls Tryz.prog 182 #[.pointer (some ⟨bb, 4 * b, none⟩), .int .i64 (p : Int)] w fun e w' => e = .returned (.bool (blankFrom B np p)) ∧ BlankWorld w w' := by
  obtain ⟨m, hm⟩ : ∃ m, p + m = np := ⟨np - p, by omega⟩
  have hcp : decide (np = p) = false := decide_eq_false (by omega)
  go_enter Tryz.func182, Tryz.ntmps182
  go_wp2
  go_loopw [14] (fun i wr => ∃ k : Nat, k ≤ np - p ∧ i = .int .i64 k ∧ BlankWorld w wr ∧ Hid (∀ j, j < k → (B.pg (p + j)).blank = true)) (fun i _ => np - p - (intOf i).toNat)
  case atStart => exact ⟨0, Nat.zero_le _, rfl, Upd.refl _ _, Lib.hid (fun j hj => absurd hj (Nat.not_lt_zero j))⟩
  case round =>
    obtain ⟨k, hk, rfl, hw, hb⟩ := hrel
    by_cases hlt : k < np - p
    · obtain ⟨c0, c1, ⟨va, vn, vk, c2⟩, _⟩ := pgs_cells (hP.grow hw) (show p + k < np by omega)
      rw [show 3 * (p + k) = p * 3 + k * 3 by omega] at c0 c1 c2
      generalize hst : (B.pg (p + k)).st = st at c0
      generalize hto : (B.pg (p + k)).torn = to at c1
      have Hst := Lib.hid hst
      have Hto := Lib.hid hto
      have HP := Lib.hid hP
      clear hst hto hP
      by_cases hs : st = 0
      · subst hs
        cases to
        · go_wp2
          go_roundw
          case rel => exact ⟨k + 1, by omega, by go_num, Upd.alloc hw _, Lib.hid (fun j hj => by
            by_cases e : j = k
            · subst e; simp [Pg.blank, Hst.out, Hto.out]
            · exact hb.out j (by omega))⟩
          case measure => simp [intOf]; omega
        · go_wp2
          go_ret
          exact ⟨by rw [blank_no (r := p + k) (by omega) (by omega) (by simp [Pg.blank, Hto.out])]; rfl, Upd.alloc hw _⟩
      · have hs1 : ((st : Int) != 0) = true := bne_iff_ne.2 (by omega)
        go_wp2
        go_ret
        exact ⟨by rw [blank_no (r := p + k) (by omega) (by omega) (by simp [Pg.blank, Hst.out, hs])]; rfl, Upd.alloc hw _⟩
    · have hd : decide (k < np - p) = false := decide_eq_false hlt
      go_wp2
      go_ret
      exact ⟨by rw [blank_yes (fun r h1 h2 => by have := hb.out (r - p) (by omega); rwa [show p + (r - p) = r by omega] at this)]; rfl, hw⟩

theorem row_setCells {b : Nat} {t : TypeId} {n : Nat} : ∀ (vs : List Value) (o : Nat) (w : World) (f : Nat → Value), w.rowIs b t n f → (w.setCells b o vs).rowIs b t n (fun j => if o ≤ j ∧ j < o + vs.length then vs.getD (j - o) undef else f j)
  | [], o, w, f, h => h.congr fun j _ => by rw [if_neg (by rw [List.length_nil]; omega)]
  | v :: r, o, w, f, h => by
    refine (row_setCells r (o + 1) _ _ (h.set o v)).congr fun j _ => ?_
    simp only [List.length_cons]
    by_cases e : j = o
    · subst e
      rw [if_neg (by omega), if_pos rfl, if_pos (by omega), Nat.sub_self]; rfl
    · by_cases e2 : o + 1 ≤ j ∧ j < o + 1 + r.length
      · rw [if_pos e2, if_pos (by omega), show j - o = (j - (o + 1)) + 1 by omega]; rfl
      · rw [if_neg e2, if_neg e, if_neg (by omega)]
theorem upd_setCells (b : Nat) : ∀ (vs : List Value) (o : Nat) (w : World), Upd (oneBlock b) w (w.setCells b o vs)
  | [], _, w => Upd.refl _ w
  | v :: r, o, w => ((Upd.refl (oneBlock b) w).setCell (p := ⟨b, o, none⟩) (.inl rfl) v).trans (upd_setCells b r (o + 1) _)
theorem zeroPages (n : Nat) : (Builtin.zeroCells #[.int .i64 0, .bool false, .slice none 0 0] n).toList = (List.range (3 * n)).map (pgCell (fun _ => .slice none 0 0) ⟨fun _ => pg0, 0, 0, false⟩) := by
  apply List.ext_getElem
  · simp [Builtin.zeroCells]; omega
  · intro i h1 h2
    simp [Builtin.zeroCells, pgCell, pg0]
    have : i % 3 = 0 ∨ i % 3 = 1 ∨ i % 3 = 2 := by omega
    rcases this with e | e | e <;> simp [e]
theorem run_clear_pages (w : World) (ty : TypeId) (q np : Nat) (hn : 0 < np) (f : Nat → Value) (h : w.rowIs q 147 (3 * np) f) :
    (Builtin.clear_ #[130] ty #[.slice (some ⟨q, 0, none⟩) np np]).run Tryz.prog w = .ok (.tuple #[]) (w.setCells q 0 ((List.range (3 * np)).map (pgCell (fun _ => .slice none 0 0) ⟨fun _ => pg0, 0, 0, false⟩))) := by
  have hst := run_storeCells_cells (P := Tryz.prog) q 0 ((List.range (3 * np)).map (pgCell (fun _ => .slice none 0 0) ⟨fun _ => pg0, 0, 0, false⟩)) 0 w (fun j hj => by
      simp only [List.length_map, List.length_range] at hj
      rw [show 0 + 0 + j = j by omega, h.cell hj]; rfl) (fun j hj => h.frozen _) (by
      intro v hv
      simp only [List.mem_map, List.mem_range] at hv
      obtain ⟨i, _, rfl⟩ := hv
      unfold pgCell
      split
      · rfl
      · split <;> rfl)
  obtain ⟨m, rfl⟩ : ∃ m, np = m + 1 := ⟨np - 1, by omega⟩
  have hz := zeroPages (m + 1)
  have hc : (Value.agg #[.int .i64 0, .bool false, .slice none 0 0]).cells = #[.int .i64 0, .bool false, .slice none 0 0] := by rfl
  simp [Builtin.clear_, run_underlying Tryz.underlying130, hc, hz, hst]

set_option maxRecDepth 100000 in
theorem erase_any (bb b q np sz : Nat) (B : Bk) (w : World) (h1 : w.cell? ⟨bb, 4 * b, none⟩ = some (.slice (some ⟨q, 0, none⟩) np np)) (hP : PgsIn w q np sz B) (hn : 0 < np) :
    Calls Tryz.prog 97 #[.pointer (some ⟨bb, 4 * b, none⟩)] w fun e w' => e = .returned (.tuple #[]) ∧ PgsIn w' q np sz (B.allPg fun _ => pg0) ∧ Upd (oneBlock q) w w' := by
  obtain ⟨D, hD, _, _⟩ := hP
  have hcl := fun ty => run_clear_pages w ty q np hn _ hD
  obtain ⟨L, hL⟩ : ∃ L, L = (List.range (3 * np)).map (pgCell (fun _ => .slice none 0 0) ⟨fun _ => pg0, 0, 0, false⟩) := ⟨_, rfl⟩
  rw [← hL] at hcl
  have E : Hid (PgsIn (w.setCells q 0 L) q np sz (B.allPg fun _ => pg0)) := Lib.hid (by
    refine ⟨fun _ => .slice none 0 0, (row_setCells L 0 w _ hD).congr fun i hi => ?_, fun _ _ => ⟨_, _, _, rfl⟩, fun p _ h => by simp [Bk.allPg, pg0] at h⟩
    have hl : L.length = 3 * np := by rw [hL]; simp
    rw [if_pos (by omega), hL, List.getD_eq_getElem?_getD]
    simp [hi, pgCell, Bk.allPg])
  have U := Lib.hid (upd_setCells q L 0 w)
  clear hL hD
  go_enter Tryz.func97, Tryz.ntmps97
  go_wp2_with (simp only [hcl])
  go_end0
  exact ⟨rfl, E.out, U.out⟩

def tornErase (m : Nat) (x : Pg) : Pg := if m < 3 then x else if m < 6 then x.spoilN else pg0
def upTo (B : Bk) (k : Nat) (f : Pg → Pg) : Bk := { B with pg := fun q => if q < k then f (B.pg q) else B.pg q }
set_option maxRecDepth 100000 in
set_option maxHeartbeats 800000 in
theorem tearErase_any (bb b q np sz m : Nat) (B : Bk) (w : World) (h1 : w.cell? ⟨bb, 4 * b, none⟩ = some (.slice (some ⟨q, 0, none⟩) np np)) (hq : ¬ bb = q) (hP : PgsIn w q np sz B) (hn : 0 < np) (hnp : np ≤ 64) (hm : m < 8) :
    Calls Tryz.prog 96 #[.pointer (some ⟨bb, 4 * b, none⟩), .int .i64 (m : Int)] w fun e w' => e = .returned (.tuple #[]) ∧ PgsIn w' q np sz (B.allPg (tornErase m)) ∧ Upd (oneBlock q) w w' := by
  by_cases h3 : m < 3
  · have hm3 : decide ((m : Int) < 3) = true := decide_eq_true (by omega)
    have E := Lib.hid (hP.congr (B' := B.allPg (tornErase m)) (fun p _ => by simp [Bk.allPg, tornErase, h3]))
    clear hP
    go_enter Tryz.func96, Tryz.ntmps96
    go_wp2
    go_end0
    exact ⟨rfl, E.out, Upd.refl _ _⟩
  · by_cases h6 : m < 6
    · have hm3 : decide ((m : Int) < 3) = false := decide_eq_false (by omega)
      have hm6 : decide ((m : Int) < 6) = true := decide_eq_true (by omega)
      have HT : Hid (tornErase m = Pg.spoilN) := Lib.hid (by funext x; simp [tornErase, h3, h6])
      have HP := Lib.hid hP
      clear hP
      go_enter Tryz.func96, Tryz.ntmps96
      go_wp2
      go_loopw [18] (fun i wr => ∃ k : Nat, k ≤ np ∧ i = .int .i64 k ∧ Upd (oneBlock q) w wr ∧ PgsIn wr q np sz (upTo B k Pg.spoilN)) (fun i _ => np - (intOf i).toNat)
      case atStart => exact ⟨0, Nat.zero_le _, rfl, Upd.refl _ _, HP.out.congr (fun p _ => by simp [upTo])⟩
      case round =>
        obtain ⟨k, hk, rfl, hw, hPk⟩ := hrel
        have c0 : wr.cell? ⟨bb, 4 * b, none⟩ = some (.slice (some ⟨q, 0, none⟩) np np) := (World.cell?_of_block (hw.block bb (World.block_lt_of_cell? w _ h1) hq)).trans h1
        have HPk := Lib.hid hPk
        clear hPk
        by_cases hlt : k < np
        · go_wp2_with (go_at_call 119; rw [show k * 3 = 3 * k by omega]; refine (spoilN_any q np sz k (upTo B k Pg.spoilN) _ HPk.out hlt).mono ?_; rintro e w' ⟨rfl, h1, h2⟩; have H1 := Lib.hid h1; clear h1)
          go_roundw
          case rel => exact ⟨k + 1, by omega, by go_num, hw.trans (by assumption), H1.out.congr (fun p hp => by
            simp only [upTo, Bk.setPg]
            by_cases e : p = k
            · subst e; simp
            · by_cases e2 : p < k
              · simp [e, e2, show p < k + 1 by omega]
              · simp [e, e2, show ¬ p < k + 1 by omega])⟩
          case measure => simp [intOf]; omega
        · have hd : decide (k < np) = false := decide_eq_false hlt
          go_wp2
          go_end0
          exact ⟨rfl, HPk.out.congr (fun p hp => by simp [upTo, Bk.allPg, HT.out, show p < k by omega]), hw⟩
    · have hm3 : decide ((m : Int) < 3) = false := decide_eq_false (by omega)
      have hm6 : decide ((m : Int) < 6) = false := decide_eq_false (by omega)
      have HT : Hid (tornErase m = fun _ => pg0) := Lib.hid (by funext x; simp [tornErase, h3, h6])
      have HP := Lib.hid hP
      clear hP
      go_enter Tryz.func96, Tryz.ntmps96
      go_wp2_with (go_at_call 97; refine (erase_any bb b q np sz B _ h1 HP.out hn).mono ?_; rintro e w' ⟨rfl, h1, h2⟩; have H1 := Lib.hid h1; clear h1)
      go_end0
      exact ⟨rfl, by rw [HT.out]; exact H1.out, by assumption⟩
end Go.Proofs.YtoledgpcgjdjjaaGreatDoor

/- Walks over package nand: what a torn Program leaves. -/
namespace Go.Proofs.YtoledgpcgjdjjaaGreatDoor
open Go.RowKit

theorem kept {w w' : World} {bb i q : Nat} {v : Value} (h : w.cell? ⟨bb, i, none⟩ = some v) (hu : Upd (oneBlock q) w w') (hq : ¬ bb = q) : w'.cell? ⟨bb, i, none⟩ = some v :=
  (World.cell?_of_block (hu.block bb (World.block_lt_of_cell? w _ h) hq)).trans h
def Pg.mark (x : Pg) : Pg := { x with torn := true }
def Pg.tear (x : Pg) (l : List UInt8) (m : Nat) : Pg := if m % 3 = 1 then x.spoil else if m % 3 = 2 then x.write l else x
def tearP (B : Bk) (p : Nat) (l : List UInt8) (m : Nat) : Bk :=
  if 2 ≤ p % 4 ∧ 4 ≤ m then ((B.setPg p ((B.pg p).tear l m)).setPg p ((B.pg p).tear l m).mark).setPg (p - 2) (B.pg (p - 2)).spoilW else (B.setPg p ((B.pg p).tear l m)).setPg p ((B.pg p).tear l m).mark
theorem PgsIn.mark {w : World} {q np sz : Nat} {B : Bk} (h : PgsIn w q np sz B) {p : Nat} (hp : p < np) :
    PgsIn (w.setCell ⟨q, p * 3 + 1, none⟩ (.bool true)) q np sz (B.setPg p (B.pg p).mark) ∧ Upd (oneBlock q) w (w.setCell ⟨q, p * 3 + 1, none⟩ (.bool true)) := by
  obtain ⟨D, hD, hS, hd⟩ := h
  have hU : Upd (oneBlock q) w (w.setCell ⟨q, p * 3 + 1, none⟩ (.bool true)) := (Upd.refl (oneBlock q) w).setCell (p := ⟨q, p * 3 + 1, none⟩) (.inl rfl) _
  have hR : ∀ g y z, w.heap[g]? = some (.cells y 5 z) → ¬ oneBlock q g := by
    intro g y z hg e
    obtain ⟨y', hy'⟩ := row_block hD
    exact apart hg hy' (by decide) e
  refine ⟨⟨D, (hD.set (p * 3 + 1) _).congr fun i hi => ?_, hS, fun r hr h1 => ?_⟩, hU⟩
  · unfold pgCell Bk.setPg Pg.mark
    by_cases e : i / 3 = p
    · have e3 : i = p * 3 ∨ i = p * 3 + 1 ∨ i = p * 3 + 2 := by omega
      rcases e3 with rfl | rfl | rfl
      · simp [show p * 3 / 3 = p by omega]
      · simp only [if_true, if_neg (show ¬ (p * 3 + 1) % 3 = 0 by omega), if_pos (show (p * 3 + 1) % 3 = 1 by omega), show (p * 3 + 1) / 3 = p by omega]
      · simp only [if_neg (show ¬ p * 3 + 2 = p * 3 + 1 by omega), if_neg (show ¬ (p * 3 + 2) % 3 = 0 by omega), if_neg (show ¬ (p * 3 + 2) % 3 = 1 by omega), show (p * 3 + 2) / 3 = p by omega]
    · simp only [if_neg (show ¬ i = p * 3 + 1 by omega), if_neg e]
  · have e1 : (B.pg r).st = 1 := by
      unfold Bk.setPg Pg.mark at h1
      by_cases e : r = p
      · subst e; simpa using h1
      · simpa [e] using h1
    have e2 : ((B.setPg p (B.pg p).mark).pg r).data = (B.pg r).data := by
      unfold Bk.setPg Pg.mark
      by_cases e : r = p
      · subst e; simp
      · simp [e]
    rw [e2]
    exact ⟨(hd r hr e1).1.upd hU hR, (hd r hr e1).2⟩
theorem Bk.setPg_at (B : Bk) (p : Nat) (x : Pg) : (B.setPg p x).pg p = x := by simp [Bk.setPg]
theorem Bk.setPg_other (B : Bk) (p r : Nat) (x : Pg) (h : ¬ r = p) : (B.setPg p x).pg r = B.pg r := by simp [Bk.setPg, h]

set_option maxRecDepth 100000 in
set_option maxHeartbeats 800000 in
theorem tearP_0low (bb b q np p m : Nat) (s : ByteArray) (B : Bk) (w : World) (_ : s.size ≤ 2048) (h1 : w.cell? ⟨bb, 4 * b, none⟩ = some (.slice (some ⟨q, 0, none⟩) np np)) (hq : ¬ bb = q) (hP : PgsIn w q np s.size B) (hp : p < np) (hnp : np ≤ 64) (hm : m < 8) (hr : m % 3 = 0) (hu : p % 4 < 2) :
    Calls Tryz.prog 183 #[.pointer (some ⟨bb, 4 * b, none⟩), .int .i64 (p : Int), .string s, .int .i64 (m : Int)] w fun e w' => e = .returned (.tuple #[]) ∧ PgsIn w' q np s.size (tearP B p s.data.toList m) ∧ Upd (oneBlock q) w w' := by
  have hr1 : ((m : Int) % 3 == 1) = false := beq_eq_false_iff_ne.2 (by omega)
  have hr2 : ((m : Int) % 3 == 2) = false := beq_eq_false_iff_ne.2 (by omega)
  have HT : Hid (tearP B p s.data.toList m = ((B.setPg p (B.pg p)).setPg p (B.pg p).mark)) := Lib.hid (by
    have e : (B.pg p).tear s.data.toList m = (B.pg p) := by simp [Pg.tear, hr]
    unfold tearP
    rw [e, if_neg (by omega)])
  have hP0 : PgsIn w q np s.size (B.setPg p (B.pg p)) := hP.same p
  have hu0 : Upd (oneBlock q) w w := Upd.refl _ _
  have HP := Lib.hid hP
  have HR := Lib.hid hr
  clear hP hr
  have H1 := Lib.hid hP0
  have hu1 := hu0
  obtain ⟨_, d1, _, df⟩ := pgs_cells H1.out hp
  rw [show 3 * p + 1 = p * 3 + 1 by omega] at d1
  have df1 := df (p * 3 + 1)
  have MK := Lib.hid (PgsIn.mark H1.out hp)
  have cc := kept h1 MK.out.2 hq
  have U1 := Lib.hid hu1
  clear df hu1 hu0 hP0
  go_enter Tryz.func183, Tryz.ntmps183
  go_wp2_with (go_at_call 104; refine (pair_low p _ (Lib.hid (by omega)) hu).mono ?_; rintro e w2 ⟨rfl, rfl⟩)
  go_end0
  exact ⟨rfl, by rw [HT.out]; have := MK.out.1; rw [Bk.setPg_at] at this; exact this, U1.out.trans MK.out.2⟩

set_option maxRecDepth 100000 in
set_option maxHeartbeats 800000 in
theorem tearP_0up (bb b q np p m : Nat) (s : ByteArray) (B : Bk) (w : World) (_ : s.size ≤ 2048) (h1 : w.cell? ⟨bb, 4 * b, none⟩ = some (.slice (some ⟨q, 0, none⟩) np np)) (hq : ¬ bb = q) (hP : PgsIn w q np s.size B) (hp : p < np) (hnp : np ≤ 64) (hm : m < 8) (hr : m % 3 = 0) (hu : ¬ p % 4 < 2) (h4 : m < 4) :
    Calls Tryz.prog 183 #[.pointer (some ⟨bb, 4 * b, none⟩), .int .i64 (p : Int), .string s, .int .i64 (m : Int)] w fun e w' => e = .returned (.tuple #[]) ∧ PgsIn w' q np s.size (tearP B p s.data.toList m) ∧ Upd (oneBlock q) w w' := by
  have hr1 : ((m : Int) % 3 == 1) = false := beq_eq_false_iff_ne.2 (by omega)
  have hr2 : ((m : Int) % 3 == 2) = false := beq_eq_false_iff_ne.2 (by omega)
  have h4t : decide (4 ≤ (m : Int)) = false := decide_eq_false (by omega)
  have HT : Hid (tearP B p s.data.toList m = ((B.setPg p (B.pg p)).setPg p (B.pg p).mark)) := Lib.hid (by
    have e : (B.pg p).tear s.data.toList m = (B.pg p) := by simp [Pg.tear, hr]
    unfold tearP
    rw [e, if_neg (by omega)])
  have hP0 : PgsIn w q np s.size (B.setPg p (B.pg p)) := hP.same p
  have hu0 : Upd (oneBlock q) w w := Upd.refl _ _
  have HP := Lib.hid hP
  have HR := Lib.hid hr
  clear hP hr
  have H1 := Lib.hid hP0
  have hu1 := hu0
  obtain ⟨_, d1, _, df⟩ := pgs_cells H1.out hp
  rw [show 3 * p + 1 = p * 3 + 1 by omega] at d1
  have df1 := df (p * 3 + 1)
  have MK := Lib.hid (PgsIn.mark H1.out hp)
  have cc := kept h1 MK.out.2 hq
  have U1 := Lib.hid hu1
  clear df hu1 hu0 hP0
  go_enter Tryz.func183, Tryz.ntmps183
  go_wp2_with (go_at_call 104; refine (pair_up p _ (Lib.hid (by omega)) hu).mono ?_; rintro e w2 ⟨rfl, rfl⟩)
  go_end0
  exact ⟨rfl, by rw [HT.out]; have := MK.out.1; rw [Bk.setPg_at] at this; exact this, U1.out.trans MK.out.2⟩

set_option maxRecDepth 100000 in
set_option maxHeartbeats 800000 in
theorem tearP_0big (bb b q np p m : Nat) (s : ByteArray) (B : Bk) (w : World) (_ : s.size ≤ 2048) (h1 : w.cell? ⟨bb, 4 * b, none⟩ = some (.slice (some ⟨q, 0, none⟩) np np)) (hq : ¬ bb = q) (hP : PgsIn w q np s.size B) (hp : p < np) (hnp : np ≤ 64) (hm : m < 8) (hr : m % 3 = 0) (hu : ¬ p % 4 < 2) (h4 : ¬ m < 4) :
    Calls Tryz.prog 183 #[.pointer (some ⟨bb, 4 * b, none⟩), .int .i64 (p : Int), .string s, .int .i64 (m : Int)] w fun e w' => e = .returned (.tuple #[]) ∧ PgsIn w' q np s.size (tearP B p s.data.toList m) ∧ Upd (oneBlock q) w w' := by
  have hr1 : ((m : Int) % 3 == 1) = false := beq_eq_false_iff_ne.2 (by omega)
  have hr2 : ((m : Int) % 3 == 2) = false := beq_eq_false_iff_ne.2 (by omega)
  have h4t : decide (4 ≤ (m : Int)) = true := decide_eq_true (by omega)
  have HT : Hid (tearP B p s.data.toList m = ((B.setPg p (B.pg p)).setPg p (B.pg p).mark).setPg (p - 2) (B.pg (p - 2)).spoilW) := Lib.hid (by
    have e : (B.pg p).tear s.data.toList m = (B.pg p) := by simp [Pg.tear, hr]
    unfold tearP
    rw [e, if_pos (by omega)])
  have hP0 : PgsIn w q np s.size (B.setPg p (B.pg p)) := hP.same p
  have hu0 : Upd (oneBlock q) w w := Upd.refl _ _
  have HP := Lib.hid hP
  have HR := Lib.hid hr
  clear hP hr
  have H1 := Lib.hid hP0
  have hu1 := hu0
  obtain ⟨_, d1, _, df⟩ := pgs_cells H1.out hp
  rw [show 3 * p + 1 = p * 3 + 1 by omega] at d1
  have df1 := df (p * 3 + 1)
  have MK := Lib.hid (PgsIn.mark H1.out hp)
  have cc := kept h1 MK.out.2 hq
  have U1 := Lib.hid hu1
  clear df hu1 hu0 hP0
  go_enter Tryz.func183, Tryz.ntmps183
  go_wp2_with (first | (go_at_call 104; refine (pair_up p _ (Lib.hid (by omega)) hu).mono ?_; rintro e w2 ⟨rfl, rfl⟩) | (go_at_call 44; rw [show (p - 2) * 3 = 3 * (p - 2) by omega]; refine (spoilW_any q np s.size (p - 2) _ _ MK.out.1 (by omega)).mono ?_; rintro e w2 ⟨rfl, hx, hu2⟩; have H2 := Lib.hid hx; have U2 := Lib.hid hu2; clear hx hu2))
  go_end0
  exact ⟨rfl, by rw [HT.out]; have := H2.out; rw [Bk.setPg_at, Bk.setPg_other _ _ _ _ (show ¬ p - 2 = p by omega), Bk.setPg_other _ _ _ _ (show ¬ p - 2 = p by omega)] at this; exact this, (U1.out.trans MK.out.2).trans U2.out⟩

set_option maxRecDepth 100000 in
set_option maxHeartbeats 800000 in
theorem tearP_1low (bb b q np p m : Nat) (s : ByteArray) (B : Bk) (w : World) (_ : s.size ≤ 2048) (h1 : w.cell? ⟨bb, 4 * b, none⟩ = some (.slice (some ⟨q, 0, none⟩) np np)) (hq : ¬ bb = q) (hP : PgsIn w q np s.size B) (hp : p < np) (hnp : np ≤ 64) (hm : m < 8) (hr : m % 3 = 1) (hu : p % 4 < 2) :
    Calls Tryz.prog 183 #[.pointer (some ⟨bb, 4 * b, none⟩), .int .i64 (p : Int), .string s, .int .i64 (m : Int)] w fun e w' => e = .returned (.tuple #[]) ∧ PgsIn w' q np s.size (tearP B p s.data.toList m) ∧ Upd (oneBlock q) w w' := by
  have hr1 : ((m : Int) % 3 == 1) = true := beq_iff_eq.2 (by omega)
  have HT : Hid (tearP B p s.data.toList m = ((B.setPg p (B.pg p).spoil).setPg p (B.pg p).spoil.mark)) := Lib.hid (by
    have e : (B.pg p).tear s.data.toList m = (B.pg p).spoil := by simp [Pg.tear, hr]
    unfold tearP
    rw [e, if_neg (by omega)])
  have HP := Lib.hid hP
  have HR := Lib.hid hr
  clear hP hr
  go_enter Tryz.func183, Tryz.ntmps183
  go_wp2_with (first | (go_at_call 73; rw [show p * 3 = 3 * p by omega]; refine (spoil_any q np s.size p B _ HP.out hp).mono ?_; rintro e w1 ⟨rfl, hx, hu1⟩; have H1 := Lib.hid hx; clear hx; obtain ⟨_, d1, _, df⟩ := pgs_cells H1.out hp; rw [show 3 * p + 1 = p * 3 + 1 by omega] at d1; have df1 := df (p * 3 + 1); have MK := Lib.hid (PgsIn.mark H1.out hp); have c1 := kept h1 hu1 hq; have cc := kept c1 MK.out.2 hq; have U1 := Lib.hid hu1; clear df hu1) | (go_at_call 104; refine (pair_low p _ (Lib.hid (by omega)) hu).mono ?_; rintro e w2 ⟨rfl, rfl⟩))
  go_end0
  exact ⟨rfl, by rw [HT.out]; have := MK.out.1; rw [Bk.setPg_at] at this; exact this, U1.out.trans MK.out.2⟩

set_option maxRecDepth 100000 in
set_option maxHeartbeats 800000 in
theorem tearP_1up (bb b q np p m : Nat) (s : ByteArray) (B : Bk) (w : World) (_ : s.size ≤ 2048) (h1 : w.cell? ⟨bb, 4 * b, none⟩ = some (.slice (some ⟨q, 0, none⟩) np np)) (hq : ¬ bb = q) (hP : PgsIn w q np s.size B) (hp : p < np) (hnp : np ≤ 64) (hm : m < 8) (hr : m % 3 = 1) (hu : ¬ p % 4 < 2) (h4 : m < 4) :
    Calls Tryz.prog 183 #[.pointer (some ⟨bb, 4 * b, none⟩), .int .i64 (p : Int), .string s, .int .i64 (m : Int)] w fun e w' => e = .returned (.tuple #[]) ∧ PgsIn w' q np s.size (tearP B p s.data.toList m) ∧ Upd (oneBlock q) w w' := by
  have hr1 : ((m : Int) % 3 == 1) = true := beq_iff_eq.2 (by omega)
  have h4t : decide (4 ≤ (m : Int)) = false := decide_eq_false (by omega)
  have HT : Hid (tearP B p s.data.toList m = ((B.setPg p (B.pg p).spoil).setPg p (B.pg p).spoil.mark)) := Lib.hid (by
    have e : (B.pg p).tear s.data.toList m = (B.pg p).spoil := by simp [Pg.tear, hr]
    unfold tearP
    rw [e, if_neg (by omega)])
  have HP := Lib.hid hP
  have HR := Lib.hid hr
  clear hP hr
  go_enter Tryz.func183, Tryz.ntmps183
  go_wp2_with (first | (go_at_call 73; rw [show p * 3 = 3 * p by omega]; refine (spoil_any q np s.size p B _ HP.out hp).mono ?_; rintro e w1 ⟨rfl, hx, hu1⟩; have H1 := Lib.hid hx; clear hx; obtain ⟨_, d1, _, df⟩ := pgs_cells H1.out hp; rw [show 3 * p + 1 = p * 3 + 1 by omega] at d1; have df1 := df (p * 3 + 1); have MK := Lib.hid (PgsIn.mark H1.out hp); have c1 := kept h1 hu1 hq; have cc := kept c1 MK.out.2 hq; have U1 := Lib.hid hu1; clear df hu1) | (go_at_call 104; refine (pair_up p _ (Lib.hid (by omega)) hu).mono ?_; rintro e w2 ⟨rfl, rfl⟩))
  go_end0
  exact ⟨rfl, by rw [HT.out]; have := MK.out.1; rw [Bk.setPg_at] at this; exact this, U1.out.trans MK.out.2⟩

set_option maxRecDepth 100000 in
set_option maxHeartbeats 800000 in
theorem tearP_1big (bb b q np p m : Nat) (s : ByteArray) (B : Bk) (w : World) (_ : s.size ≤ 2048) (h1 : w.cell? ⟨bb, 4 * b, none⟩ = some (.slice (some ⟨q, 0, none⟩) np np)) (hq : ¬ bb = q) (hP : PgsIn w q np s.size B) (hp : p < np) (hnp : np ≤ 64) (hm : m < 8) (hr : m % 3 = 1) (hu : ¬ p % 4 < 2) (h4 : ¬ m < 4) :
    Calls Tryz.prog 183 #[.pointer (some ⟨bb, 4 * b, none⟩), .int .i64 (p : Int), .string s, .int .i64 (m : Int)] w fun e w' => e = .returned (.tuple #[]) ∧ PgsIn w' q np s.size (tearP B p s.data.toList m) ∧ Upd (oneBlock q) w w' := by
  have hr1 : ((m : Int) % 3 == 1) = true := beq_iff_eq.2 (by omega)
  have h4t : decide (4 ≤ (m : Int)) = true := decide_eq_true (by omega)
  have HT : Hid (tearP B p s.data.toList m = ((B.setPg p (B.pg p).spoil).setPg p (B.pg p).spoil.mark).setPg (p - 2) (B.pg (p - 2)).spoilW) := Lib.hid (by
    have e : (B.pg p).tear s.data.toList m = (B.pg p).spoil := by simp [Pg.tear, hr]
    unfold tearP
    rw [e, if_pos (by omega)])
  have HP := Lib.hid hP
  have HR := Lib.hid hr
  clear hP hr
  go_enter Tryz.func183, Tryz.ntmps183
  go_wp2_with (first | (go_at_call 73; rw [show p * 3 = 3 * p by omega]; refine (spoil_any q np s.size p B _ HP.out hp).mono ?_; rintro e w1 ⟨rfl, hx, hu1⟩; have H1 := Lib.hid hx; clear hx; obtain ⟨_, d1, _, df⟩ := pgs_cells H1.out hp; rw [show 3 * p + 1 = p * 3 + 1 by omega] at d1; have df1 := df (p * 3 + 1); have MK := Lib.hid (PgsIn.mark H1.out hp); have c1 := kept h1 hu1 hq; have cc := kept c1 MK.out.2 hq; have U1 := Lib.hid hu1; clear df hu1) | (go_at_call 104; refine (pair_up p _ (Lib.hid (by omega)) hu).mono ?_; rintro e w2 ⟨rfl, rfl⟩) | (go_at_call 44; rw [show (p - 2) * 3 = 3 * (p - 2) by omega]; refine (spoilW_any q np s.size (p - 2) _ _ MK.out.1 (by omega)).mono ?_; rintro e w2 ⟨rfl, hx, hu2⟩; have H2 := Lib.hid hx; have U2 := Lib.hid hu2; clear hx hu2))
  go_end0
  exact ⟨rfl, by rw [HT.out]; have := H2.out; rw [Bk.setPg_at, Bk.setPg_other _ _ _ _ (show ¬ p - 2 = p by omega), Bk.setPg_other _ _ _ _ (show ¬ p - 2 = p by omega)] at this; exact this, (U1.out.trans MK.out.2).trans U2.out⟩

set_option maxRecDepth 100000 in
set_option maxHeartbeats 800000 in
theorem tearP_2low (bb b q np p m : Nat) (s : ByteArray) (B : Bk) (w : World) (hs : s.size ≤ 2048) (h1 : w.cell? ⟨bb, 4 * b, none⟩ = some (.slice (some ⟨q, 0, none⟩) np np)) (hq : ¬ bb = q) (hP : PgsIn w q np s.size B) (hp : p < np) (hnp : np ≤ 64) (hm : m < 8) (hr : m % 3 = 2) (hu : p % 4 < 2) :
    Calls Tryz.prog 183 #[.pointer (some ⟨bb, 4 * b, none⟩), .int .i64 (p : Int), .string s, .int .i64 (m : Int)] w fun e w' => e = .returned (.tuple #[]) ∧ PgsIn w' q np s.size (tearP B p s.data.toList m) ∧ Upd (oneBlock q) w w' := by
  have hr1 : ((m : Int) % 3 == 1) = false := beq_eq_false_iff_ne.2 (by omega)
  have hr2 : ((m : Int) % 3 == 2) = true := beq_iff_eq.2 (by omega)
  have HT : Hid (tearP B p s.data.toList m = ((B.setPg p ((B.pg p).write s.data.toList)).setPg p ((B.pg p).write s.data.toList).mark)) := Lib.hid (by
    have e : (B.pg p).tear s.data.toList m = ((B.pg p).write s.data.toList) := by simp [Pg.tear, hr]
    unfold tearP
    rw [e, if_neg (by omega)])
  have HP := Lib.hid hP
  have HR := Lib.hid hr
  clear hP hr
  go_enter Tryz.func183, Tryz.ntmps183
  go_wp2_with (first | (go_at_call 184; rw [show p * 3 = 3 * p by omega]; refine (write_any q np p B s _ hs HP.out hp).mono ?_; rintro e w1 ⟨rfl, hx, hu1⟩; have H1 := Lib.hid hx; clear hx; obtain ⟨_, d1, _, df⟩ := pgs_cells H1.out hp; rw [show 3 * p + 1 = p * 3 + 1 by omega] at d1; have df1 := df (p * 3 + 1); have MK := Lib.hid (PgsIn.mark H1.out hp); have c1 := kept h1 hu1 hq; have cc := kept c1 MK.out.2 hq; have U1 := Lib.hid hu1; clear df hu1) | (go_at_call 104; refine (pair_low p _ (Lib.hid (by omega)) hu).mono ?_; rintro e w2 ⟨rfl, rfl⟩))
  go_end0
  exact ⟨rfl, by rw [HT.out]; have := MK.out.1; rw [Bk.setPg_at] at this; exact this, U1.out.trans MK.out.2⟩

set_option maxRecDepth 100000 in
set_option maxHeartbeats 800000 in
theorem tearP_2up (bb b q np p m : Nat) (s : ByteArray) (B : Bk) (w : World) (hs : s.size ≤ 2048) (h1 : w.cell? ⟨bb, 4 * b, none⟩ = some (.slice (some ⟨q, 0, none⟩) np np)) (hq : ¬ bb = q) (hP : PgsIn w q np s.size B) (hp : p < np) (hnp : np ≤ 64) (hm : m < 8) (hr : m % 3 = 2) (hu : ¬ p % 4 < 2) (h4 : m < 4) :
    Calls Tryz.prog 183 #[.pointer (some ⟨bb, 4 * b, none⟩), .int .i64 (p : Int), .string s, .int .i64 (m : Int)] w fun e w' => e = .returned (.tuple #[]) ∧ PgsIn w' q np s.size (tearP B p s.data.toList m) ∧ Upd (oneBlock q) w w' := by
  have hr1 : ((m : Int) % 3 == 1) = false := beq_eq_false_iff_ne.2 (by omega)
  have hr2 : ((m : Int) % 3 == 2) = true := beq_iff_eq.2 (by omega)
  have h4t : decide (4 ≤ (m : Int)) = false := decide_eq_false (by omega)
  have HT : Hid (tearP B p s.data.toList m = ((B.setPg p ((B.pg p).write s.data.toList)).setPg p ((B.pg p).write s.data.toList).mark)) := Lib.hid (by
    have e : (B.pg p).tear s.data.toList m = ((B.pg p).write s.data.toList) := by simp [Pg.tear, hr]
    unfold tearP
    rw [e, if_neg (by omega)])
  have HP := Lib.hid hP
  have HR := Lib.hid hr
  clear hP hr
  go_enter Tryz.func183, Tryz.ntmps183
  go_wp2_with (first | (go_at_call 184; rw [show p * 3 = 3 * p by omega]; refine (write_any q np p B s _ hs HP.out hp).mono ?_; rintro e w1 ⟨rfl, hx, hu1⟩; have H1 := Lib.hid hx; clear hx; obtain ⟨_, d1, _, df⟩ := pgs_cells H1.out hp; rw [show 3 * p + 1 = p * 3 + 1 by omega] at d1; have df1 := df (p * 3 + 1); have MK := Lib.hid (PgsIn.mark H1.out hp); have c1 := kept h1 hu1 hq; have cc := kept c1 MK.out.2 hq; have U1 := Lib.hid hu1; clear df hu1) | (go_at_call 104; refine (pair_up p _ (Lib.hid (by omega)) hu).mono ?_; rintro e w2 ⟨rfl, rfl⟩))
  go_end0
  exact ⟨rfl, by rw [HT.out]; have := MK.out.1; rw [Bk.setPg_at] at this; exact this, U1.out.trans MK.out.2⟩

set_option maxRecDepth 100000 in
set_option maxHeartbeats 800000 in
theorem tearP_2big (bb b q np p m : Nat) (s : ByteArray) (B : Bk) (w : World) (hs : s.size ≤ 2048) (h1 : w.cell? ⟨bb, 4 * b, none⟩ = some (.slice (some ⟨q, 0, none⟩) np np)) (hq : ¬ bb = q) (hP : PgsIn w q np s.size B) (hp : p < np) (hnp : np ≤ 64) (hm : m < 8) (hr : m % 3 = 2) (hu : ¬ p % 4 < 2) (h4 : ¬ m < 4) :
    Calls Tryz.prog 183 #[.pointer (some ⟨bb, 4 * b, none⟩), .int .i64 (p : Int), .string s, .int .i64 (m : Int)] w fun e w' => e = .returned (.tuple #[]) ∧ PgsIn w' q np s.size (tearP B p s.data.toList m) ∧ Upd (oneBlock q) w w' := by
  have hr1 : ((m : Int) % 3 == 1) = false := beq_eq_false_iff_ne.2 (by omega)
  have hr2 : ((m : Int) % 3 == 2) = true := beq_iff_eq.2 (by omega)
  have h4t : decide (4 ≤ (m : Int)) = true := decide_eq_true (by omega)
  have HT : Hid (tearP B p s.data.toList m = ((B.setPg p ((B.pg p).write s.data.toList)).setPg p ((B.pg p).write s.data.toList).mark).setPg (p - 2) (B.pg (p - 2)).spoilW) := Lib.hid (by
    have e : (B.pg p).tear s.data.toList m = ((B.pg p).write s.data.toList) := by simp [Pg.tear, hr]
    unfold tearP
    rw [e, if_pos (by omega)])
  have HP := Lib.hid hP
  have HR := Lib.hid hr
  clear hP hr
  go_enter Tryz.func183, Tryz.ntmps183
  go_wp2_with (first | (go_at_call 184; rw [show p * 3 = 3 * p by omega]; refine (write_any q np p B s _ hs HP.out hp).mono ?_; rintro e w1 ⟨rfl, hx, hu1⟩; have H1 := Lib.hid hx; clear hx; obtain ⟨_, d1, _, df⟩ := pgs_cells H1.out hp; rw [show 3 * p + 1 = p * 3 + 1 by omega] at d1; have df1 := df (p * 3 + 1); have MK := Lib.hid (PgsIn.mark H1.out hp); have c1 := kept h1 hu1 hq; have cc := kept c1 MK.out.2 hq; have U1 := Lib.hid hu1; clear df hu1) | (go_at_call 104; refine (pair_up p _ (Lib.hid (by omega)) hu).mono ?_; rintro e w2 ⟨rfl, rfl⟩) | (go_at_call 44; rw [show (p - 2) * 3 = 3 * (p - 2) by omega]; refine (spoilW_any q np s.size (p - 2) _ _ MK.out.1 (by omega)).mono ?_; rintro e w2 ⟨rfl, hx, hu2⟩; have H2 := Lib.hid hx; have U2 := Lib.hid hu2; clear hx hu2))
  go_end0
  exact ⟨rfl, by rw [HT.out]; have := H2.out; rw [Bk.setPg_at, Bk.setPg_other _ _ _ _ (show ¬ p - 2 = p by omega), Bk.setPg_other _ _ _ _ (show ¬ p - 2 = p by omega)] at this; exact this, (U1.out.trans MK.out.2).trans U2.out⟩

set_option maxRecDepth 100000 in
set_option maxHeartbeats 800000 in
theorem tearP_any (bb b q np p m : Nat) (s : ByteArray) (B : Bk) (w : World) (hs : s.size ≤ 2048) (h1 : w.cell? ⟨bb, 4 * b, none⟩ = some (.slice (some ⟨q, 0, none⟩) np np)) (hq : ¬ bb = q) (hP : PgsIn w q np s.size B) (hp : p < np) (hnp : np ≤ 64) (hm : m < 8) :
    Calls Tryz.prog 183 #[.pointer (some ⟨bb, 4 * b, none⟩), .int .i64 (p : Int), .string s, .int .i64 (m : Int)] w fun e w' => e = .returned (.tuple #[]) ∧ PgsIn w' q np s.size (tearP B p s.data.toList m) ∧ Upd (oneBlock q) w w' := by
  have h3 : m % 3 = 0 ∨ m % 3 = 1 ∨ m % 3 = 2 := by omega
  by_cases hu : p % 4 < 2
  · rcases h3 with hr | hr | hr
    · exact tearP_0low bb b q np p m s B w hs h1 hq hP hp hnp hm hr hu
    · exact tearP_1low bb b q np p m s B w hs h1 hq hP hp hnp hm hr hu
    · exact tearP_2low bb b q np p m s B w hs h1 hq hP hp hnp hm hr hu
  · by_cases h4 : m < 4
    · rcases h3 with hr | hr | hr
      · exact tearP_0up bb b q np p m s B w hs h1 hq hP hp hnp hm hr hu h4
      · exact tearP_1up bb b q np p m s B w hs h1 hq hP hp hnp hm hr hu h4
      · exact tearP_2up bb b q np p m s B w hs h1 hq hP hp hnp hm hr hu h4
    · rcases h3 with hr | hr | hr
      · exact tearP_0big bb b q np p m s B w hs h1 hq hP hp hnp hm hr hu h4
      · exact tearP_1big bb b q np p m s B w hs h1 hq hP hp hnp hm hr hu h4
      · exact tearP_2big bb b q np p m s B w hs h1 hq hP hp hnp hm hr hu h4

end Go.Proofs.YtoledgpcgjdjjaaGreatDoor

/- Walks over package nand: Program. -/
namespace Go.Proofs.YtoledgpcgjdjjaaGreatDoor
open Go.RowKit

theorem refusal_off (c bb b : Nat) (worn : Bool) (w : World) (h0 : w.cell? ⟨c, 6, none⟩ = some (.bool true)) (h1 : w.cell? ⟨bb, 4 * b + 3, none⟩ = some (.bool worn)) :
    Calls Tryz.prog 94 #[.pointer (some ⟨c, 0, none⟩), .pointer (some ⟨bb, 4 * b, none⟩)] w fun e w' => e = .returned (.int .i64 20) ∧ w = w' := refusal_any c bb b true worn w h0 h1
theorem refusal_worn (c bb b : Nat) (w : World) (h0 : w.cell? ⟨c, 6, none⟩ = some (.bool false)) (h1 : w.cell? ⟨bb, 4 * b + 3, none⟩ = some (.bool true)) :
    Calls Tryz.prog 94 #[.pointer (some ⟨c, 0, none⟩), .pointer (some ⟨bb, 4 * b, none⟩)] w fun e w' => e = .returned (.int .i64 22) ∧ w = w' := refusal_any c bb b false true w h0 h1
theorem refusal_ok (c bb b : Nat) (w : World) (h0 : w.cell? ⟨c, 6, none⟩ = some (.bool false)) (h1 : w.cell? ⟨bb, 4 * b + 3, none⟩ = some (.bool false)) :
    Calls Tryz.prog 94 #[.pointer (some ⟨c, 0, none⟩), .pointer (some ⟨bb, 4 * b, none⟩)] w fun e w' => e = .returned (.int .i64 0) ∧ w = w' := refusal_any c bb b false false w h0 h1

structure Ch.Fit (M : Ch) (n : Nat) : Prop where
  mode : M.mode < 8
  left : M.left ≤ 9223372036854775807
  changes : M.changes ≤ n
  er : ∀ b, (M.bk b).er ≤ n
  rd : ∀ b, (M.bk b).rd ≤ n

def Ch.progE (M : Ch) (b p : Nat) : Int := if M.off then 20 else if (M.bk b).worn then 22 else if blankFrom (M.bk b) M.np p then (if M.torn then 20 else 0) else 21
def Ch.progM (M : Ch) (b p : Nat) (l : List UInt8) : Ch :=
  if M.off then M else if (M.bk b).worn then M else if blankFrom (M.bk b) M.np p then
    (if M.torn then M.changed.setBk b (tearP (M.bk b) p l M.mode) else M.changed.setBk b ((M.bk b).setPg p (((M.bk b).pg p).write l))) else M
theorem tearP_same (B : Bk) (p : Nat) (l : List UInt8) (m : Nat) : { B with pg := (tearP B p l m).pg } = tearP B p l m := by
  unfold tearP
  by_cases h : 2 ≤ p % 4 ∧ 4 ≤ m
  · rw [if_pos h]; rfl
  · rw [if_neg h]; rfl
theorem upd_own {w w' : World} {c bb : Nat} {pb : Nat → Nat} {nb b : Nat} (hb : b < nb) (h : Upd (oneBlock (pb b)) w w') : Upd (Own c bb pb nb) w w' :=
  h.mono (fun _ _ e => .inr (.inr ⟨b, hb, e⟩))
theorem upd_own_c {w w' : World} {c bb : Nat} {pb : Nat → Nat} {nb : Nat} (h : Upd (oneBlock c) w w') : Upd (Own c bb pb nb) w w' := h.mono (fun _ _ e => .inl e)
theorem upd_own_bb {w w' : World} {c bb : Nat} {pb : Nat → Nat} {nb : Nat} (h : Upd (oneBlock bb) w w') : Upd (Own c bb pb nb) w w' := h.mono (fun _ _ e => .inr (.inl e))
theorem upd_own_0 {w w' : World} {c bb : Nat} {pb : Nat → Nat} {nb : Nat} (h : Upd noBlock w w') : Upd (Own c bb pb nb) w w' := h.mono (fun _ _ e => absurd e (fun h => h))

section
variable {w : World} {c bb : Nat} {pb : Nat → Nat} {M : Ch}
theorem ChipIn.c0 (h : ChipIn w c bb pb M) : w.cell? ⟨c, 0, none⟩ = some (.slice (some ⟨bb, 0, none⟩) M.nb M.nb) := h.cell 0
theorem ChipIn.c2 (h : ChipIn w c bb pb M) : w.cell? ⟨c, 2, none⟩ = some (.int .i64 (M.sz : Int)) := h.cell 2
theorem ChipIn.c6 (h : ChipIn w c bb pb M) {o : Bool} (ho : M.off = o) : w.cell? ⟨c, 6, none⟩ = some (.bool o) := by rw [← ho]; exact h.cell 6
theorem ChipIn.c8 (h : ChipIn w c bb pb M) : w.cell? ⟨c, 8, none⟩ = some (.int .i64 (M.mode : Int)) := h.cell 8
theorem ChipIn.b0 (h : ChipIn w c bb pb M) {b : Nat} (hb : b < M.nb) : w.cell? ⟨bb, 4 * b, none⟩ = some (.slice (some ⟨pb b, 0, none⟩) M.np M.np) := by rw [h.bcell _ (by omega), bkCell0]
theorem ChipIn.b1 (h : ChipIn w c bb pb M) {b : Nat} (hb : b < M.nb) : w.cell? ⟨bb, 4 * b + 1, none⟩ = some (.int .i64 ((M.bk b).er : Int)) := by rw [h.bcell _ (by omega), bkCell1]
theorem ChipIn.b2 (h : ChipIn w c bb pb M) {b : Nat} (hb : b < M.nb) : w.cell? ⟨bb, 4 * b + 2, none⟩ = some (.int .i64 ((M.bk b).rd : Int)) := by rw [h.bcell _ (by omega), bkCell2]
theorem ChipIn.b3 (h : ChipIn w c bb pb M) {b : Nat} (hb : b < M.nb) {o : Bool} (ho : (M.bk b).worn = o) : w.cell? ⟨bb, 4 * b + 3, none⟩ = some (.bool o) := by rw [h.bcell _ (by omega), bkCell3, ho]
end

set_option maxRecDepth 100000 in
set_option maxHeartbeats 800000 in
theorem program_off (c bb : Nat) (pb : Nat → Nat) (M : Ch) (b p : Nat) (s : ByteArray) (w : World) (h : ChipIn w c bb pb M) (hb : b < M.nb) (hp : p < M.np) (hs : s.size = M.sz) (ho : M.off = true) :
    Calls Tryz.prog 140 #[.pointer (some ⟨c, 0, none⟩), .int .i64 (b : Int), .int .i64 (p : Int), .string s] w fun e w' => e = .returned (.int .i64 20) ∧ w = w' := by
  have C0 := Lib.hid h.c0
  have c2 := h.c2
  have B0 := Lib.hid (h.b0 hb)
  have C6 := Lib.hid (h.c6 ho)
  have B3 := Lib.hid (h.b3 hb rfl)
  have hnb := h.nb
  have hnp := h.np
  have hsz := h.sz
  have hne : ((s.size : Int) != (M.sz : Int)) = false := by rw [hs]; simp
  have hsm : s.size ≤ 2048 := by omega
  have HS := Lib.hid hs
  clear h hs ho
  go_enter Tryz.func140, Tryz.ntmps140
  go_wp2_with (first | (go_at_call 43; refine (page_in c bb M.nb b (pb b) M.np p _ hnb C0.out hb B0.out hnp hp).mono ?_; rintro e w' ⟨rfl, rfl⟩) | (go_at_call 72; refine (block_in c bb M.nb b _ hnb C0.out hb).mono ?_; rintro e w' ⟨rfl, rfl⟩) | (go_at_call 94; refine (refusal_off c bb b _ _ C6.out B3.out).mono ?_; rintro e w' ⟨rfl, rfl⟩))
  go_ret
  exact ⟨rfl, rfl⟩
set_option maxRecDepth 100000 in
set_option maxHeartbeats 800000 in
theorem program_worn (c bb : Nat) (pb : Nat → Nat) (M : Ch) (b p : Nat) (s : ByteArray) (w : World) (h : ChipIn w c bb pb M) (hb : b < M.nb) (hp : p < M.np) (hs : s.size = M.sz) (ho : M.off = false) (hw : (M.bk b).worn = true) :
    Calls Tryz.prog 140 #[.pointer (some ⟨c, 0, none⟩), .int .i64 (b : Int), .int .i64 (p : Int), .string s] w fun e w' => e = .returned (.int .i64 22) ∧ w = w' := by
  have C0 := Lib.hid h.c0
  have c2 := h.c2
  have B0 := Lib.hid (h.b0 hb)
  have C6 := Lib.hid (h.c6 ho)
  have B3 := Lib.hid (h.b3 hb hw)
  have hnb := h.nb
  have hnp := h.np
  have hsz := h.sz
  have hne : ((s.size : Int) != (M.sz : Int)) = false := by rw [hs]; simp
  have hsm : s.size ≤ 2048 := by omega
  have HS := Lib.hid hs
  clear h hs ho hw
  go_enter Tryz.func140, Tryz.ntmps140
  go_wp2_with (first | (go_at_call 43; refine (page_in c bb M.nb b (pb b) M.np p _ hnb C0.out hb B0.out hnp hp).mono ?_; rintro e w' ⟨rfl, rfl⟩) | (go_at_call 72; refine (block_in c bb M.nb b _ hnb C0.out hb).mono ?_; rintro e w' ⟨rfl, rfl⟩) | (go_at_call 94; refine (refusal_worn c bb b _ C6.out B3.out).mono ?_; rintro e w' ⟨rfl, rfl⟩))
  go_ret
  exact ⟨rfl, rfl⟩
set_option maxRecDepth 100000 in
set_option maxHeartbeats 800000 in
theorem program_order (c bb : Nat) (pb : Nat → Nat) (M : Ch) (b p : Nat) (s : ByteArray) (w : World) (h : ChipIn w c bb pb M) (hb : b < M.nb) (hp : p < M.np) (hs : s.size = M.sz) (ho : M.off = false) (hw : (M.bk b).worn = false) (hbl : blankFrom (M.bk b) M.np p = false) :
    Calls Tryz.prog 140 #[.pointer (some ⟨c, 0, none⟩), .int .i64 (b : Int), .int .i64 (p : Int), .string s] w fun e w' => e = .returned (.int .i64 21) ∧ Upd noBlock w w' := by
  have C0 := Lib.hid h.c0
  have c2 := h.c2
  have B0 := Lib.hid (h.b0 hb)
  have C6 := Lib.hid (h.c6 ho)
  have B3 := Lib.hid (h.b3 hb hw)
  have hnb := h.nb
  have hnp := h.np
  have hsz := h.sz
  have hne : ((s.size : Int) != (M.sz : Int)) = false := by rw [hs]; simp
  have hsm : s.size ≤ 2048 := by omega
  have HS := Lib.hid hs
  have BL : Hid (_) := Lib.hid (blankFrom_any bb b (pb b) M.np M.sz p (M.bk b) w B0.out (h.pgs b hb) hp hnp)
  rw [hbl] at BL
  clear h hs ho hw hbl
  go_enter Tryz.func140, Tryz.ntmps140
  go_wp2_with (first | (go_at_call 43; refine (page_in c bb M.nb b (pb b) M.np p _ hnb C0.out hb B0.out hnp hp).mono ?_; rintro e w' ⟨rfl, rfl⟩) | (go_at_call 72; refine (block_in c bb M.nb b _ hnb C0.out hb).mono ?_; rintro e w' ⟨rfl, rfl⟩) | (go_at_call 94; refine (refusal_ok c bb b _ C6.out B3.out).mono ?_; rintro e w' ⟨rfl, rfl⟩) | (go_at_call 182; refine BL.out.mono ?_; rintro e w1 ⟨rfl, hw1⟩))
  go_ret
  exact ⟨rfl, by assumption⟩

theorem change_way (c bb : Nat) (pb : Nat → Nat) (M : Ch) (w : World) (t : Bool) (ht : M.torn = t) (h : ChipIn w c bb pb M) (hoff : M.off = false) (hc : M.changes < 4611686018427387904) (hl : M.left ≤ 9223372036854775807) :
    Calls Tryz.prog 95 #[.pointer (some ⟨c, 0, none⟩)] w fun e w' => e = .returned (.bool t) ∧ ChipIn w' c bb pb M.changed ∧ Upd (oneBlock c) w w' := by
  rw [← ht]; exact change_any c bb pb M w h hoff hc hl
set_option maxRecDepth 100000 in
set_option maxHeartbeats 1600000 in
theorem program_ok (c bb : Nat) (pb : Nat → Nat) (M : Ch) (b p n : Nat) (s : ByteArray) (w : World) (h : ChipIn w c bb pb M) (hF : M.Fit n) (hn : n < 4611686018427387904) (hb : b < M.nb) (hp : p < M.np) (hs : s.size = M.sz) (ho : M.off = false) (hw : (M.bk b).worn = false) (hbl : blankFrom (M.bk b) M.np p = true) (ht : M.torn = false) :
    Calls Tryz.prog 140 #[.pointer (some ⟨c, 0, none⟩), .int .i64 (b : Int), .int .i64 (p : Int), .string s] w fun e w' => e = .returned (.int .i64 0) ∧ ChipIn w' c bb pb (M.changed.setBk b ((M.bk b).setPg p (((M.bk b).pg p).write s.data.toList))) ∧ Upd (Own c bb pb M.nb) w w' := by
  have C0 := Lib.hid h.c0
  have c2 := h.c2
  have B0 := Lib.hid (h.b0 hb)
  have C6 := Lib.hid (h.c6 ho)
  have B3 := Lib.hid (h.b3 hb hw)
  have hnb := h.nb
  have hnp := h.np
  have hsz := h.sz
  have hne : ((s.size : Int) != (M.sz : Int)) = false := by rw [hs]; simp
  have hsm : s.size ≤ 2048 := by omega
  have HS := Lib.hid hs
  have BL : Hid (_) := Lib.hid (blankFrom_any bb b (pb b) M.np M.sz p (M.bk b) w B0.out (h.pgs b hb) hp hnp)
  rw [hbl] at BL
  have H := Lib.hid h
  have HO := Lib.hid ho
  have HT := Lib.hid ht
  have hch : M.changes < 4611686018427387904 := Nat.lt_of_le_of_lt hF.changes hn
  have hle := hF.left
  clear h hs ho hw hbl ht hF
  go_enter Tryz.func140, Tryz.ntmps140
  go_wp2_with (first | (go_at_call 43; refine (page_in c bb M.nb b (pb b) M.np p _ hnb C0.out hb B0.out hnp hp).mono ?_; rintro e w' ⟨rfl, rfl⟩) | (go_at_call 72; refine (block_in c bb M.nb b _ hnb C0.out hb).mono ?_; rintro e w' ⟨rfl, rfl⟩) | (go_at_call 94; refine (refusal_ok c bb b _ C6.out B3.out).mono ?_; rintro e w' ⟨rfl, rfl⟩) | (go_at_call 182; refine BL.out.mono ?_; rintro e w1 ⟨rfl, hw1⟩; have HW1 := Lib.hid hw1; clear hw1) | (go_at_call 95; refine (change_way c bb pb M _ false HT.out (H.out.grow HW1.out) HO.out hch hle).mono ?_; rintro e w2 ⟨rfl, hw2, hu2⟩; have H2 := Lib.hid hw2; have U2 := Lib.hid hu2; have d0 := hw2.b0 hb; clear hw2 hu2) | (go_at_call 184; rw [show p * 3 = 3 * p by omega]; refine (write_any (pb b) M.np p (M.bk b) s _ hsm (by have := H2.out.pgs b hb; rw [HS.out]; exact this) hp).mono ?_; rintro e w3 ⟨rfl, hw3, hu3⟩; have H3 := Lib.hid hw3; have U3 := Lib.hid hu3; clear hw3 hu3))
  go_ret
  refine ⟨rfl, ?_, ((upd_own_0 HW1.out).trans (upd_own_c U2.out)).trans (upd_own hb U3.out)⟩
  have := H3.out
  rw [HS.out] at this
  exact H2.out.setPgs hb _ U3.out this
set_option maxRecDepth 100000 in
set_option maxHeartbeats 1600000 in
theorem program_torn (c bb : Nat) (pb : Nat → Nat) (M : Ch) (b p n : Nat) (s : ByteArray) (w : World) (h : ChipIn w c bb pb M) (hF : M.Fit n) (hn : n < 4611686018427387904) (hb : b < M.nb) (hp : p < M.np) (hs : s.size = M.sz) (ho : M.off = false) (hw : (M.bk b).worn = false) (hbl : blankFrom (M.bk b) M.np p = true) (ht : M.torn = true) :
    Calls Tryz.prog 140 #[.pointer (some ⟨c, 0, none⟩), .int .i64 (b : Int), .int .i64 (p : Int), .string s] w fun e w' => e = .returned (.int .i64 20) ∧ ChipIn w' c bb pb (M.changed.setBk b (tearP (M.bk b) p s.data.toList M.mode)) ∧ Upd (Own c bb pb M.nb) w w' := by
  have C0 := Lib.hid h.c0
  have c2 := h.c2
  have B0 := Lib.hid (h.b0 hb)
  have C6 := Lib.hid (h.c6 ho)
  have B3 := Lib.hid (h.b3 hb hw)
  have hnb := h.nb
  have hnp := h.np
  have hsz := h.sz
  have hne : ((s.size : Int) != (M.sz : Int)) = false := by rw [hs]; simp
  have hsm : s.size ≤ 2048 := by omega
  have HS := Lib.hid hs
  have BL : Hid (_) := Lib.hid (blankFrom_any bb b (pb b) M.np M.sz p (M.bk b) w B0.out (h.pgs b hb) hp hnp)
  rw [hbl] at BL
  have H := Lib.hid h
  have HO := Lib.hid ho
  have HT := Lib.hid ht
  have hch : M.changes < 4611686018427387904 := Nat.lt_of_le_of_lt hF.changes hn
  have hle := hF.left
  have hmo := hF.mode
  clear h hs ho hw hbl ht hF
  go_enter Tryz.func140, Tryz.ntmps140
  go_wp2_with (first | (go_at_call 43; refine (page_in c bb M.nb b (pb b) M.np p _ hnb C0.out hb B0.out hnp hp).mono ?_; rintro e w' ⟨rfl, rfl⟩) | (go_at_call 72; refine (block_in c bb M.nb b _ hnb C0.out hb).mono ?_; rintro e w' ⟨rfl, rfl⟩) | (go_at_call 94; refine (refusal_ok c bb b _ C6.out B3.out).mono ?_; rintro e w' ⟨rfl, rfl⟩) | (go_at_call 182; refine BL.out.mono ?_; rintro e w1 ⟨rfl, hw1⟩; have HW1 := Lib.hid hw1; clear hw1) | (go_at_call 95; refine (change_way c bb pb M _ true HT.out (H.out.grow HW1.out) HO.out hch hle).mono ?_; rintro e w2 ⟨rfl, hw2, hu2⟩; have H2 := Lib.hid hw2; have U2 := Lib.hid hu2; have D0 := Lib.hid (hw2.b0 hb); have d8 : w2.cell? ⟨c, 8, none⟩ = some (.int .i64 (M.mode : Int)) := hw2.c8; clear hw2 hu2) | (go_at_call 183; refine (tearP_any bb b (pb b) M.np p M.mode s (M.bk b) _ hsm D0.out (H2.out.bb_pb hb) (by have := H2.out.pgs b hb; rw [HS.out]; exact this) hp hnp hmo).mono ?_; rintro e w3 ⟨rfl, hw3, hu3⟩; have H3 := Lib.hid hw3; have U3 := Lib.hid hu3; clear hw3 hu3))
  go_ret
  refine ⟨rfl, ?_, ((upd_own_0 HW1.out).trans (upd_own_c U2.out)).trans (upd_own hb U3.out)⟩
  have := H3.out
  rw [HS.out] at this
  have := H2.out.setPgs hb _ U3.out this
  rw [← tearP_same]; exact this

theorem program_in (c bb : Nat) (pb : Nat → Nat) (M : Ch) (b p n : Nat) (s : ByteArray) (w : World) (h : ChipIn w c bb pb M) (hF : M.Fit n) (hn : n < 4611686018427387904) (hb : b < M.nb) (hp : p < M.np) (hs : s.size = M.sz) :
    Calls Tryz.prog 140 #[.pointer (some ⟨c, 0, none⟩), .int .i64 (b : Int), .int .i64 (p : Int), .string s] w fun e w' => e = .returned (.int .i64 (M.progE b p)) ∧ ChipIn w' c bb pb (M.progM b p s.data.toList) ∧ Upd (Own c bb pb M.nb) w w' := by
  unfold Ch.progE Ch.progM
  cases ho : M.off
  · cases hw : (M.bk b).worn
    · cases hbl : blankFrom (M.bk b) M.np p
      · exact (program_order c bb pb M b p s w h hb hp hs ho hw hbl).mono fun e w' ⟨he, hu⟩ => ⟨he, h.grow hu, upd_own_0 hu⟩
      · cases ht : M.torn
        · exact program_ok c bb pb M b p n s w h hF hn hb hp hs ho hw hbl ht
        · exact program_torn c bb pb M b p n s w h hF hn hb hp hs ho hw hbl ht
    · refine (program_worn c bb pb M b p s w h hb hp hs ho hw).mono ?_
      rintro e w' ⟨he, rfl⟩
      exact ⟨he, h, Upd.refl _ _⟩
  · refine (program_off c bb pb M b p s w h hb hp hs ho).mono ?_
    rintro e w' ⟨he, rfl⟩
    exact ⟨he, h, Upd.refl _ _⟩
end Go.Proofs.YtoledgpcgjdjjaaGreatDoor

/- Walks over package nand: Erase, Spoil, Wear, and what touches the chip's head alone. -/
namespace Go.Proofs.YtoledgpcgjdjjaaGreatDoor
open Go.RowKit

def Ch.eraseE (M : Ch) (b : Nat) : Int := if M.off then 20 else if (M.bk b).worn then 22 else if M.torn then 20 else 0
def Bk.counted (B : Bk) : Bk := { B with er := B.er + 1, rd := 0 }
def Ch.eraseM (M : Ch) (b : Nat) : Ch :=
  if M.off then M else if (M.bk b).worn then M else
    if M.torn then M.changed.setBk b ((M.bk b).counted.allPg (tornErase M.mode)) else M.changed.setBk b ((M.bk b).counted.allPg fun _ => pg0)

theorem ChipIn.count {w : World} {c bb : Nat} {pb : Nat → Nat} {M : Ch} (h : ChipIn w c bb pb M) {b : Nat} (_ : b < M.nb) :
    ChipIn ((w.setCell ⟨bb, 4 * b + 1, none⟩ (.int .i64 (((M.bk b).er : Int) + 1))).setCell ⟨bb, 4 * b + 2, none⟩ (.int .i64 0)) c bb pb (M.setBk b (M.bk b).counted) ∧
      Upd (oneBlock bb) w ((w.setCell ⟨bb, 4 * b + 1, none⟩ (.int .i64 (((M.bk b).er : Int) + 1))).setCell ⟨bb, 4 * b + 2, none⟩ (.int .i64 0)) := by
  have h1 := h.setBlk (4 * b + 1) (.int .i64 (((M.bk b).er : Int) + 1)) (M.setBk b { M.bk b with er := (M.bk b).er + 1 }) (fun j hj => by
    unfold bkCell Ch.setBk
    by_cases e : j = 4 * b + 1
    · subst e
      simp only [if_true, if_neg (show ¬ (4 * b + 1) % 4 = 0 by omega), if_pos (show (4 * b + 1) % 4 = 1 by omega), show (4 * b + 1) / 4 = b by omega]; rfl
    · by_cases e2 : j / 4 = b
      · rw [if_neg e]
        simp only [e2, if_true]
        rw [if_neg (show ¬ j % 4 = 1 by omega), if_neg (show ¬ j % 4 = 1 by omega)]
      · simp only [if_neg e, if_neg e2]) rfl rfl rfl rfl (fun b' p _ _ => by
    unfold Ch.setBk
    by_cases e : b' = b
    · subst e; simp
    · simp [e])
  have h2 := h1.setBlk (4 * b + 2) (.int .i64 0) (M.setBk b (M.bk b).counted) (fun j hj => by
    unfold bkCell Ch.setBk Bk.counted
    by_cases e : j = 4 * b + 2
    · subst e
      simp only [if_true, if_neg (show ¬ (4 * b + 2) % 4 = 0 by omega), if_neg (show ¬ (4 * b + 2) % 4 = 1 by omega), if_pos (show (4 * b + 2) % 4 = 2 by omega), show (4 * b + 2) / 4 = b by omega]; rfl
    · by_cases e2 : j / 4 = b
      · rw [if_neg e]
        simp only [e2, if_true]
        rw [if_neg (show ¬ j % 4 = 2 by omega), if_neg (show ¬ j % 4 = 2 by omega)]
      · simp only [if_neg e, if_neg e2]) rfl rfl rfl rfl (fun b' p _ _ => by
    unfold Ch.setBk Bk.counted
    by_cases e : b' = b
    · subst e; simp
    · simp [e])
  exact ⟨h2, ((Upd.refl (oneBlock bb) w).setCell (p := ⟨bb, 4 * b + 1, none⟩) (.inl rfl) _).setCell (p := ⟨bb, 4 * b + 2, none⟩) (.inl rfl) _⟩

set_option maxRecDepth 100000 in
theorem erase_off (c bb : Nat) (pb : Nat → Nat) (M : Ch) (b : Nat) (w : World) (h : ChipIn w c bb pb M) (hb : b < M.nb) (ho : M.off = true) :
    Calls Tryz.prog 71 #[.pointer (some ⟨c, 0, none⟩), .int .i64 (b : Int)] w fun e w' => e = .returned (.int .i64 20) ∧ w = w' := by
  have C0 := Lib.hid h.c0
  have C6 := Lib.hid (h.c6 ho)
  have B3 := Lib.hid (h.b3 hb rfl)
  have hnb := h.nb
  clear h ho
  go_enter Tryz.func71, Tryz.ntmps71
  go_wp2_with (first | (go_at_call 72; refine (block_in c bb M.nb b _ hnb C0.out hb).mono ?_; rintro e w' ⟨rfl, rfl⟩) | (go_at_call 94; refine (refusal_off c bb b _ _ C6.out B3.out).mono ?_; rintro e w' ⟨rfl, rfl⟩))
  go_ret
  exact ⟨rfl, rfl⟩
set_option maxRecDepth 100000 in
theorem erase_worn (c bb : Nat) (pb : Nat → Nat) (M : Ch) (b : Nat) (w : World) (h : ChipIn w c bb pb M) (hb : b < M.nb) (ho : M.off = false) (hw : (M.bk b).worn = true) :
    Calls Tryz.prog 71 #[.pointer (some ⟨c, 0, none⟩), .int .i64 (b : Int)] w fun e w' => e = .returned (.int .i64 22) ∧ w = w' := by
  have C0 := Lib.hid h.c0
  have C6 := Lib.hid (h.c6 ho)
  have B3 := Lib.hid (h.b3 hb hw)
  have hnb := h.nb
  clear h ho hw
  go_enter Tryz.func71, Tryz.ntmps71
  go_wp2_with (first | (go_at_call 72; refine (block_in c bb M.nb b _ hnb C0.out hb).mono ?_; rintro e w' ⟨rfl, rfl⟩) | (go_at_call 94; refine (refusal_worn c bb b _ C6.out B3.out).mono ?_; rintro e w' ⟨rfl, rfl⟩))
  go_ret
  exact ⟨rfl, rfl⟩
set_option maxRecDepth 100000 in
set_option maxHeartbeats 1600000 in
theorem erase_ok (c bb : Nat) (pb : Nat → Nat) (M : Ch) (b n : Nat) (w : World) (h : ChipIn w c bb pb M) (hF : M.Fit n) (hn : n < 4611686018427387904) (hb : b < M.nb) (hnp0 : 0 < M.np) (ho : M.off = false) (hw : (M.bk b).worn = false) (ht : M.torn = false) :
    Calls Tryz.prog 71 #[.pointer (some ⟨c, 0, none⟩), .int .i64 (b : Int)] w fun e w' => e = .returned (.int .i64 0) ∧ ChipIn w' c bb pb (M.changed.setBk b ((M.bk b).counted.allPg fun _ => pg0)) ∧ Upd (Own c bb pb M.nb) w w' := by
  have C0 := Lib.hid h.c0
  have C6 := Lib.hid (h.c6 ho)
  have B3 := Lib.hid (h.b3 hb hw)
  have hnb := h.nb
  have hnp := h.np
  have H := Lib.hid h
  have HO := Lib.hid ho
  have HT := Lib.hid ht
  have hch : M.changes < 4611686018427387904 := Nat.lt_of_le_of_lt hF.changes hn
  have her : (M.bk b).er < 4611686018427387904 := Nat.lt_of_le_of_lt (hF.er b) hn
  have hle := hF.left
  clear h ho hw ht hF
  go_enter Tryz.func71, Tryz.ntmps71
  go_wp2_with (first | (go_at_call 72; refine (block_in c bb M.nb b _ hnb C0.out hb).mono ?_; rintro e w' ⟨rfl, rfl⟩) | (go_at_call 94; refine (refusal_ok c bb b _ C6.out B3.out).mono ?_; rintro e w' ⟨rfl, rfl⟩) | (go_at_call 95; refine (change_way c bb pb M _ false HT.out H.out HO.out hch hle).mono ?_; rintro e w2 ⟨rfl, hw2, hu2⟩; have H2 := Lib.hid (hw2.count hb); have U2 := Lib.hid hu2; have d1 : w2.cell? ⟨bb, 4 * b + 1, none⟩ = some (.int .i64 ((M.bk b).er : Int)) := hw2.b1 hb; have d2 : w2.cell? ⟨bb, 4 * b + 2, none⟩ = some (.int .i64 ((M.bk b).rd : Int)) := hw2.b2 hb; have f1 := hw2.bfree (4 * b + 1); have f2 := hw2.bfree (4 * b + 2); clear hw2 hu2) | (go_at_call 97; refine (erase_any bb b (pb b) M.np M.sz _ _ (H2.out.1.b0 hb) (H2.out.1.pgs b hb) hnp0).mono ?_; rintro e w3 ⟨rfl, hw3, hu3⟩; have H3 := Lib.hid hw3; have U3 := Lib.hid hu3; clear hw3 hu3))
  go_ret
  refine ⟨rfl, ?_, ((upd_own_c U2.out).trans (upd_own_bb H2.out.2)).trans (upd_own hb U3.out)⟩
  have := H2.out.1.setPgs hb _ U3.out H3.out
  refine (congrArg (ChipIn _ c bb pb) ?_).mp this
  simp only [Ch.setBk, Ch.changed, if_true, Bk.allPg]
  congr 1
  funext k
  by_cases e : k = b
  · simp [e]
  · simp [e]
set_option maxRecDepth 100000 in
set_option maxHeartbeats 1600000 in
theorem erase_torn (c bb : Nat) (pb : Nat → Nat) (M : Ch) (b n : Nat) (w : World) (h : ChipIn w c bb pb M) (hF : M.Fit n) (hn : n < 4611686018427387904) (hb : b < M.nb) (hnp0 : 0 < M.np) (ho : M.off = false) (hw : (M.bk b).worn = false) (ht : M.torn = true) :
    Calls Tryz.prog 71 #[.pointer (some ⟨c, 0, none⟩), .int .i64 (b : Int)] w fun e w' => e = .returned (.int .i64 20) ∧ ChipIn w' c bb pb (M.changed.setBk b ((M.bk b).counted.allPg (tornErase M.mode))) ∧ Upd (Own c bb pb M.nb) w w' := by
  have C0 := Lib.hid h.c0
  have C6 := Lib.hid (h.c6 ho)
  have B3 := Lib.hid (h.b3 hb hw)
  have hnb := h.nb
  have hnp := h.np
  have H := Lib.hid h
  have HO := Lib.hid ho
  have HT := Lib.hid ht
  have hch : M.changes < 4611686018427387904 := Nat.lt_of_le_of_lt hF.changes hn
  have her : (M.bk b).er < 4611686018427387904 := Nat.lt_of_le_of_lt (hF.er b) hn
  have hle := hF.left
  have hmo := hF.mode
  have hcbb : ¬ c = bb := h.c_bb
  clear h ho hw ht hF
  go_enter Tryz.func71, Tryz.ntmps71
  go_wp2_with (first | (go_at_call 72; refine (block_in c bb M.nb b _ hnb C0.out hb).mono ?_; rintro e w' ⟨rfl, rfl⟩) | (go_at_call 94; refine (refusal_ok c bb b _ C6.out B3.out).mono ?_; rintro e w' ⟨rfl, rfl⟩) | (go_at_call 95; refine (change_way c bb pb M _ true HT.out H.out HO.out hch hle).mono ?_; rintro e w2 ⟨rfl, hw2, hu2⟩; have H2 := Lib.hid (hw2.count hb); have U2 := Lib.hid hu2; have d1 : w2.cell? ⟨bb, 4 * b + 1, none⟩ = some (.int .i64 ((M.bk b).er : Int)) := hw2.b1 hb; have d2 : w2.cell? ⟨bb, 4 * b + 2, none⟩ = some (.int .i64 ((M.bk b).rd : Int)) := hw2.b2 hb; have f1 := hw2.bfree (4 * b + 1); have f2 := hw2.bfree (4 * b + 2); have d8 : w2.cell? ⟨c, 8, none⟩ = some (.int .i64 (M.mode : Int)) := hw2.c8; clear hw2 hu2) | (go_at_call 96; refine (tearErase_any bb b (pb b) M.np M.sz M.mode _ _ (H2.out.1.b0 hb) (H2.out.1.bb_pb hb) (H2.out.1.pgs b hb) hnp0 hnp hmo).mono ?_; rintro e w3 ⟨rfl, hw3, hu3⟩; have H3 := Lib.hid hw3; have U3 := Lib.hid hu3; clear hw3 hu3))
  go_ret
  refine ⟨rfl, ?_, ((upd_own_c U2.out).trans (upd_own_bb H2.out.2)).trans (upd_own hb U3.out)⟩
  have := H2.out.1.setPgs hb _ U3.out H3.out
  refine (congrArg (ChipIn _ c bb pb) ?_).mp this
  simp only [Ch.setBk, Ch.changed, if_true, Bk.allPg]
  congr 1
  funext k
  by_cases e : k = b
  · simp [e]
  · simp [e]
theorem erase_in (c bb : Nat) (pb : Nat → Nat) (M : Ch) (b n : Nat) (w : World) (h : ChipIn w c bb pb M) (hF : M.Fit n) (hn : n < 4611686018427387904) (hb : b < M.nb) (hnp0 : 0 < M.np) :
    Calls Tryz.prog 71 #[.pointer (some ⟨c, 0, none⟩), .int .i64 (b : Int)] w fun e w' => e = .returned (.int .i64 (M.eraseE b)) ∧ ChipIn w' c bb pb (M.eraseM b) ∧ Upd (Own c bb pb M.nb) w w' := by
  unfold Ch.eraseE Ch.eraseM
  cases ho : M.off
  · cases hw : (M.bk b).worn
    · cases ht : M.torn
      · exact erase_ok c bb pb M b n w h hF hn hb hnp0 ho hw ht
      · exact erase_torn c bb pb M b n w h hF hn hb hnp0 ho hw ht
    · refine (erase_worn c bb pb M b w h hb ho hw).mono ?_
      rintro e w' ⟨he, rfl⟩
      exact ⟨he, h, Upd.refl _ _⟩
  · refine (erase_off c bb pb M b w h hb ho).mono ?_
    rintro e w' ⟨he, rfl⟩
    exact ⟨he, h, Upd.refl _ _⟩

/-! Spoil, Wear -/
def Ch.spoilM (M : Ch) (b p : Nat) : Ch := M.setBk b ((M.bk b).setPg p ((M.bk b).pg p).spoilW)
def Ch.wearM (M : Ch) (b : Nat) : Ch := M.setBk b { M.bk b with worn := true }
set_option maxRecDepth 100000 in
theorem spoilC_in (c bb : Nat) (pb : Nat → Nat) (M : Ch) (b p : Nat) (w : World) (h : ChipIn w c bb pb M) (hb : b < M.nb) (hp : p < M.np) :
    Calls Tryz.prog 15 #[.pointer (some ⟨c, 0, none⟩), .int .i64 (b : Int), .int .i64 (p : Int)] w fun e w' => e = .returned (.int .i64 0) ∧ ChipIn w' c bb pb (M.spoilM b p) ∧ Upd (Own c bb pb M.nb) w w' := by
  have C0 := Lib.hid h.c0
  have B0 := Lib.hid (h.b0 hb)
  have hnb := h.nb
  have hnp := h.np
  have H := Lib.hid h
  clear h
  go_enter Tryz.func15, Tryz.ntmps15
  go_wp2_with (first | (go_at_call 43; refine (page_in c bb M.nb b (pb b) M.np p _ hnb C0.out hb B0.out hnp hp).mono ?_; rintro e w' ⟨rfl, rfl⟩) | (go_at_call 44; refine (spoilW_any (pb b) M.np M.sz p (M.bk b) _ (H.out.pgs b hb) hp).mono ?_; rintro e w1 ⟨rfl, hw1, hu1⟩; have H1 := Lib.hid hw1; have U1 := Lib.hid hu1; clear hw1 hu1))
  go_ret
  exact ⟨rfl, H.out.setPgs hb _ U1.out H1.out, upd_own hb U1.out⟩
/-! the head -/
def cutMode (m : Int) : Nat := (if m < 0 then -(m + 1) else m).toNat % 8
def Ch.cutM (M : Ch) (n m : Int) : Ch := { M with left := (max n 1).toNat, mode := cutMode m }
def Ch.onM (M : Ch) : Ch := { M with off := false, left := 0 }
def Ch.noiseM (M : Ch) (seed most piece : Int) : Ch := { M with seed := IntKind.u64.wrap seed, most := min most 64, piece := piece }
set_option maxRecDepth 100000 in
theorem counts_in (c bb : Nat) (pb : Nat → Nat) (M : Ch) (b : Nat) (w : World) (h : ChipIn w c bb pb M) (hb : b < M.nb) :
    Calls Tryz.prog 56 #[.pointer (some ⟨c, 0, none⟩), .int .i64 (b : Int)] w fun e w' => e = .returned (.tuple #[.int .i64 ((M.bk b).er : Int), .int .i64 ((M.bk b).rd : Int)]) ∧ ∃ k, w' = w.drewN k := by
  have C0 := Lib.hid h.c0
  have b1 := h.b1 hb
  have b2 := h.b2 hb
  have hnb := h.nb
  clear h
  generalize ((M.bk b).er : Int) = er at *
  generalize ((M.bk b).rd : Int) = rd at *
  go_enter Tryz.func56, Tryz.ntmps56
  go_wp2_with (go_at_call 72; refine (block_in c bb M.nb b _ hnb C0.out hb).mono ?_; rintro e w' ⟨rfl, rfl⟩)
  go_quiet (fail)
  go_wp2
  go_ret2
  exact ⟨rfl, _, rfl⟩
set_option maxRecDepth 100000 in
theorem is_any (c bb : Nat) (pb : Nat → Nat) (M : Ch) (x y z : Int) (w : World) (h : ChipIn w c bb pb M) :
    Calls Tryz.prog 35 #[.pointer (some ⟨c, 0, none⟩), .int .i64 x, .int .i64 y, .int .i64 z] w fun e w' => e = .returned (.bool (((M.nb : Int) == x) && ((M.np : Int) == y) && ((M.sz : Int) == z))) ∧ w = w' := by
  have c0 := h.c0
  have c1 : w.cell? ⟨c, 1, none⟩ = some (.int .i64 (M.np : Int)) := h.cell 1
  have c2 := h.c2
  have hnb := h.nb
  clear h
  generalize M.nb = nb at *
  generalize M.np = np at *
  generalize M.sz = sz at *
  cases e0 : ((nb : Int) == x)
  · go_enter Tryz.func35, Tryz.ntmps35
    go_wp2
    go_ret
    exact ⟨rfl, rfl⟩
  · cases e1 : ((np : Int) == y)
    · go_enter Tryz.func35, Tryz.ntmps35
      go_wp2
      go_ret
      exact ⟨rfl, rfl⟩
    · cases e2 : ((sz : Int) == z)
      · go_enter Tryz.func35, Tryz.ntmps35
        go_wp2
        go_ret
        exact ⟨rfl, rfl⟩
      · go_enter Tryz.func35, Tryz.ntmps35
        go_wp2
        go_ret
        exact ⟨rfl, rfl⟩
end Go.Proofs.YtoledgpcgjdjjaaGreatDoor
