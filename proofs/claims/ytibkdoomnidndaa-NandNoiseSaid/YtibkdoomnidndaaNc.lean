/- Walks over package nand: what becomes of a block's pages. -/
import Derived.Test.YtibkdoomnidndaaNb
import Derived.LoopTactic
import Derived.Lib.SliceRun
namespace Go.Proofs.Ytibkdoomnidndaa
open Go.RowKit

theorem blank_yes {B : Bk} {np p : Nat} (h : ∀ r, p ≤ r → r < np → (B.pg r).blank = true) : blankFrom B np p = true := by
  unfold blankFrom
  rw [List.all_eq_true]
  intro r hr
  rw [List.mem_range] at hr
  by_cases e : r < p
  · simp [e]
  · simp [h r (by omega) hr]
theorem blank_no {B : Bk} {np p r : Nat} (h1 : p ≤ r) (h2 : r < np) (h : (B.pg r).blank = false) : blankFrom B np p = false := by
  unfold blankFrom
  rw [List.all_eq_false]
  exact ⟨r, List.mem_range.2 h2, by simp [h]; omega⟩

def BlankWorld (w w' : World) : Prop := Upd noBlock w w'
set_option maxRecDepth 100000 in
set_option maxHeartbeats 800000 in
theorem blankFrom_any (bb b q np sz p : Nat) (B : Bk) (w : World) (h1 : w.cell? ⟨bb, 4 * b, none⟩ = some (.slice (some ⟨q, 0, none⟩) np np)) (hP : PgsIn w q np sz B) (hp : p < np) (hnp : np ≤ 64) :
    Calls Try.prog 39 #[.pointer (some ⟨bb, 4 * b, none⟩), .int .i64 (p : Int)] w fun e w' => e = .returned (.bool (blankFrom B np p)) ∧ BlankWorld w w' := by
  obtain ⟨m, hm⟩ : ∃ m, p + m = np := ⟨np - p, by omega⟩
  have hcp : decide (np = p) = false := decide_eq_false (by omega)
  go_enter Try.func39, Try.ntmps39
  go_wp2
  go_loopw [14] (fun i wr => ∃ k : Nat, k ≤ np - p ∧ i = .int .i64 k ∧ BlankWorld w wr ∧ Hid (∀ j, j < k → (B.pg (p + j)).blank = true)) (fun i _ => np - p - (intOf i).toNat)
  case atStart => exact ⟨0, Nat.zero_le _, rfl, Upd.refl _ _, Lib.hid (fun j hj => absurd hj (Nat.not_lt_zero j))⟩
  case round =>
    obtain ⟨k, hk, rfl, hw, hb⟩ := hrel
    by_cases hlt : k < np - p
    · obtain ⟨c0, c1, ⟨va, vn, vk, c2⟩, _⟩ := pgs_cells (hP.grow hw) (show p + k < np by omega)
      rw [show 3 * (p + k) = p * 3 + k * 3 by omega] at c0 c1 c2
      generalize hst : (B.pg (p + k)).st = st at c0
      generalize hto : (B.pg (p + k)).torn = to at c1
      have Hst := Lib.hid hst
      have Hto := Lib.hid hto
      have HP := Lib.hid hP
      clear hst hto hP
      by_cases hs : st = 0
      · subst hs
        cases to
        · go_wp2
          go_roundw
          case rel => exact ⟨k + 1, by omega, by go_num, Upd.alloc hw _, Lib.hid (fun j hj => by
            by_cases e : j = k
            · subst e; simp [Pg.blank, Hst.out, Hto.out]
            · exact hb.out j (by omega))⟩
          case measure => simp [intOf]; omega
        · go_wp2
          go_ret
          exact ⟨by rw [blank_no (r := p + k) (by omega) (by omega) (by simp [Pg.blank, Hto.out])]; rfl, Upd.alloc hw _⟩
      · have hs1 : ((st : Int) != 0) = true := bne_iff_ne.2 (by omega)
        go_wp2
        go_ret
        exact ⟨by rw [blank_no (r := p + k) (by omega) (by omega) (by simp [Pg.blank, Hst.out, hs])]; rfl, Upd.alloc hw _⟩
    · have hd : decide (k < np - p) = false := decide_eq_false hlt
      go_wp2
      go_ret
      exact ⟨by rw [blank_yes (fun r h1 h2 => by have := hb.out (r - p) (by omega); rwa [show p + (r - p) = r by omega] at this)]; rfl, hw⟩

theorem row_setCells {b : Nat} {t : TypeId} {n : Nat} : ∀ (vs : List Value) (o : Nat) (w : World) (f : Nat → Value), w.rowIs b t n f → (w.setCells b o vs).rowIs b t n (fun j => if o ≤ j ∧ j < o + vs.length then vs.getD (j - o) undef else f j)
  | [], o, w, f, h => h.congr fun j _ => by rw [if_neg (by rw [List.length_nil]; omega)]
  | v :: r, o, w, f, h => by
    refine (row_setCells r (o + 1) _ _ (h.set o v)).congr fun j _ => ?_
    simp only [List.length_cons]
    by_cases e : j = o
    · subst e
      rw [if_neg (by omega), if_pos rfl, if_pos (by omega), Nat.sub_self]; rfl
    · by_cases e2 : o + 1 ≤ j ∧ j < o + 1 + r.length
      · rw [if_pos e2, if_pos (by omega), show j - o = (j - (o + 1)) + 1 by omega]; rfl
      · rw [if_neg e2, if_neg e, if_neg (by omega)]
theorem upd_setCells (b : Nat) : ∀ (vs : List Value) (o : Nat) (w : World), Upd (oneBlock b) w (w.setCells b o vs)
  | [], _, w => Upd.refl _ w
  | v :: r, o, w => ((Upd.refl (oneBlock b) w).setCell (p := ⟨b, o, none⟩) (.inl rfl) v).trans (upd_setCells b r (o + 1) _)
theorem zeroPage (w : World) : (zeroValue 85).run Try.prog w = .ok (.agg #[.int .i64 0, .bool false, .slice none 0 0]) w := by kernel_rfl
theorem zeroPages (n : Nat) : (Builtin.zeroCells #[.int .i64 0, .bool false, .slice none 0 0] n).toList = (List.range (3 * n)).map (pgCell (fun _ => .slice none 0 0) ⟨fun _ => pg0, 0, 0, false⟩) := by
  apply List.ext_getElem
  · simp [Builtin.zeroCells]; omega
  · intro i h1 h2
    simp [Builtin.zeroCells, pgCell, pg0]
    have : i % 3 = 0 ∨ i % 3 = 1 ∨ i % 3 = 2 := by omega
    rcases this with e | e | e <;> simp [e]
theorem run_clear_pages (w : World) (ty : TypeId) (q np : Nat) (hn : 0 < np) (f : Nat → Value) (h : w.rowIs q 85 (3 * np) f) :
    (Builtin.clear_ #[70] ty #[.slice (some ⟨q, 0, none⟩) np np]).run Try.prog w = .ok (.tuple #[]) (w.setCells q 0 ((List.range (3 * np)).map (pgCell (fun _ => .slice none 0 0) ⟨fun _ => pg0, 0, 0, false⟩))) := by
  have hst := run_storeCells_cells (P := Try.prog) q 0 ((List.range (3 * np)).map (pgCell (fun _ => .slice none 0 0) ⟨fun _ => pg0, 0, 0, false⟩)) 0 w (fun j hj => by
      simp only [List.length_map, List.length_range] at hj
      rw [show 0 + 0 + j = j by omega, h.cell hj]; rfl) (fun j hj => h.frozen _) (by
      intro v hv
      simp only [List.mem_map, List.mem_range] at hv
      obtain ⟨i, _, rfl⟩ := hv
      unfold pgCell
      split
      · rfl
      · split <;> rfl)
  obtain ⟨m, rfl⟩ : ∃ m, np = m + 1 := ⟨np - 1, by omega⟩
  have hz := zeroPages (m + 1)
  have hc : (Value.agg #[.int .i64 0, .bool false, .slice none 0 0]).cells = #[.int .i64 0, .bool false, .slice none 0 0] := by rfl
  simp [Builtin.clear_, run_underlying Try.underlying70, hc, hz, hst]

set_option maxRecDepth 100000 in
theorem erase_any (bb b q np sz : Nat) (B : Bk) (w : World) (h1 : w.cell? ⟨bb, 4 * b, none⟩ = some (.slice (some ⟨q, 0, none⟩) np np)) (hP : PgsIn w q np sz B) (hn : 0 < np) :
    Calls Try.prog 35 #[.pointer (some ⟨bb, 4 * b, none⟩)] w fun e w' => e = .returned (.tuple #[]) ∧ PgsIn w' q np sz (B.allPg fun _ => pg0) ∧ Upd (oneBlock q) w w' := by
  obtain ⟨D, hD, _, _⟩ := hP
  have hcl := fun ty => run_clear_pages w ty q np hn _ hD
  obtain ⟨L, hL⟩ : ∃ L, L = (List.range (3 * np)).map (pgCell (fun _ => .slice none 0 0) ⟨fun _ => pg0, 0, 0, false⟩) := ⟨_, rfl⟩
  rw [← hL] at hcl
  have E : Hid (PgsIn (w.setCells q 0 L) q np sz (B.allPg fun _ => pg0)) := Lib.hid (by
    refine ⟨fun _ => .slice none 0 0, (row_setCells L 0 w _ hD).congr fun i hi => ?_, fun _ _ => ⟨_, _, _, rfl⟩, fun p _ h => by simp [Bk.allPg, pg0] at h⟩
    have hl : L.length = 3 * np := by rw [hL]; simp
    rw [if_pos (by omega), hL, List.getD_eq_getElem?_getD]
    simp [hi, pgCell, Bk.allPg])
  have U := Lib.hid (upd_setCells q L 0 w)
  clear hL hD
  go_enter Try.func35, Try.ntmps35
  go_wp2_with (simp only [hcl])
  go_end0
  exact ⟨rfl, E.out, U.out⟩

/-- what a torn Erase leaves of a page -/
def tornErase (m : Nat) (x : Pg) : Pg := if m < 3 then x else if m < 6 then x.spoilN else pg0
def upTo (B : Bk) (k : Nat) (f : Pg → Pg) : Bk := { B with pg := fun q => if q < k then f (B.pg q) else B.pg q }
set_option maxRecDepth 100000 in
set_option maxHeartbeats 800000 in
theorem tearErase_any (bb b q np sz m : Nat) (B : Bk) (w : World) (h1 : w.cell? ⟨bb, 4 * b, none⟩ = some (.slice (some ⟨q, 0, none⟩) np np)) (hq : ¬ bb = q) (hP : PgsIn w q np sz B) (hn : 0 < np) (hnp : np ≤ 64) (hm : m < 8) :
    Calls Try.prog 34 #[.pointer (some ⟨bb, 4 * b, none⟩), .int .i64 (m : Int)] w fun e w' => e = .returned (.tuple #[]) ∧ PgsIn w' q np sz (B.allPg (tornErase m)) ∧ Upd (oneBlock q) w w' := by
  by_cases h3 : m < 3
  · have hm3 : decide ((m : Int) < 3) = true := decide_eq_true (by omega)
    have E := Lib.hid (hP.congr (B' := B.allPg (tornErase m)) (fun p _ => by simp [Bk.allPg, tornErase, h3]))
    clear hP
    go_enter Try.func34, Try.ntmps34
    go_wp2
    go_end0
    exact ⟨rfl, E.out, Upd.refl _ _⟩
  · by_cases h6 : m < 6
    · have hm3 : decide ((m : Int) < 3) = false := decide_eq_false (by omega)
      have hm6 : decide ((m : Int) < 6) = true := decide_eq_true (by omega)
      have HT : Hid (tornErase m = Pg.spoilN) := Lib.hid (by funext x; simp [tornErase, h3, h6])
      have HP := Lib.hid hP
      clear hP
      go_enter Try.func34, Try.ntmps34
      go_wp2
      go_loopw [18] (fun i wr => ∃ k : Nat, k ≤ np ∧ i = .int .i64 k ∧ Upd (oneBlock q) w wr ∧ PgsIn wr q np sz (upTo B k Pg.spoilN)) (fun i _ => np - (intOf i).toNat)
      case atStart => exact ⟨0, Nat.zero_le _, rfl, Upd.refl _ _, HP.out.congr (fun p _ => by simp [upTo])⟩
      case round =>
        obtain ⟨k, hk, rfl, hw, hPk⟩ := hrel
        have c0 : wr.cell? ⟨bb, 4 * b, none⟩ = some (.slice (some ⟨q, 0, none⟩) np np) := (World.cell?_of_block (hw.block bb (World.block_lt_of_cell? w _ h1) hq)).trans h1
        have HPk := Lib.hid hPk
        clear hPk
        by_cases hlt : k < np
        · go_wp2_with (go_at_call 46; rw [show k * 3 = 3 * k by omega]; refine (spoilN_any q np sz k (upTo B k Pg.spoilN) _ HPk.out hlt).mono ?_; rintro e w' ⟨rfl, h1, h2⟩; have H1 := Lib.hid h1; clear h1)
          go_roundw
          case rel => exact ⟨k + 1, by omega, by go_num, hw.trans (by assumption), H1.out.congr (fun p hp => by
            simp only [upTo, Bk.setPg]
            by_cases e : p = k
            · subst e; simp
            · by_cases e2 : p < k
              · simp [e, e2, show p < k + 1 by omega]
              · simp [e, e2, show ¬ p < k + 1 by omega])⟩
          case measure => simp [intOf]; omega
        · have hd : decide (k < np) = false := decide_eq_false hlt
          go_wp2
          go_end0
          exact ⟨rfl, HPk.out.congr (fun p hp => by simp [upTo, Bk.allPg, HT.out, show p < k by omega]), hw⟩
    · have hm3 : decide ((m : Int) < 3) = false := decide_eq_false (by omega)
      have hm6 : decide ((m : Int) < 6) = false := decide_eq_false (by omega)
      have HT : Hid (tornErase m = fun _ => pg0) := Lib.hid (by funext x; simp [tornErase, h3, h6])
      have HP := Lib.hid hP
      clear hP
      go_enter Try.func34, Try.ntmps34
      go_wp2_with (go_at_call 35; refine (erase_any bb b q np sz B _ h1 HP.out hn).mono ?_; rintro e w' ⟨rfl, h1, h2⟩; have H1 := Lib.hid h1; clear h1)
      go_end0
      exact ⟨rfl, by rw [HT.out]; exact H1.out, by assumption⟩
end Go.Proofs.Ytibkdoomnidndaa
