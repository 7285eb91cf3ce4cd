import Derived.Test.YtoledgpcgjdjjaaGreatDoorQGNc
import Derived.RegionTactic
import Derived.ChangeAlike
import Derived.StillTailTactics
/- Walks over package nand: New. -/
namespace Go.Proofs.YtoledgpcgjdjjaaGreatDoor
open Go.RowKit

theorem blockInfo : (Tryz.prog.info? 132).map (fun i => (i.zero, i.size, i.bytes)) = some (some (.agg #[.slice none 0 0, .int .i64 0, .int .i64 0, .bool false]), 4, 48) := by kernel_rfl
theorem pageInfo : (Tryz.prog.info? 147).map (fun i => (i.zero, i.size, i.bytes)) = some (some (.agg #[.int .i64 0, .bool false, .slice none 0 0]), 3, 40) := by kernel_rfl
theorem run_make_wide {P : Program} (t e : TypeId) (z : Value) (size bytes : Nat) (ht : P.underlying t = some (.slice e)) (hinfo : (P.info? e).map (fun i => (i.zero, i.size, i.bytes)) = some (some z, size, bytes)) (n : Nat) (hbytes : bytes * n ≤ 281474976710656) (h63 : n ≤ 9223372036854775807) (w : World) :
    (Instr.makeSlice t (.int .i64 (n : Int)) (.int .i64 (n : Int))).run P w = .ok (.slice (some ⟨w.heap.size, 0, none⟩) n n) (w.alloc (.cells (madeCells z.cells (n * size)) e)) := by
  obtain ⟨i, hi, hzz⟩ := Option.map_eq_some_iff.1 hinfo
  simp only [Prod.mk.injEq] at hzz
  obtain ⟨hz, hs, hb⟩ := hzz
  have hb' : (i.bytes : Int) * (n : Int) ≤ 281474976710656 := by
    rw [hb]
    have h : ((bytes * n : Nat) : Int) ≤ 281474976710656 := by omega
    rwa [Int.natCast_mul] at h
  have := run_make (P := P) w t e i z ht hi hz .i64 .i64 (n : Int) (n : Int) (by omega) (Int.le_refl _) hb' (by omega)
  rw [hs, Int.toNat_natCast] at this
  exact this

def newBk : Bk := ⟨fun _ => pg0, 0, 0, false⟩
def newCh (nb np sz : Nat) : Ch := ⟨nb, np, sz, fun _ => newBk, 0, 0, 0, false, 0, 0, 0⟩
def newCell (B np k i : Nat) : Value :=
  if i % 4 = 0 then (if i / 4 < k then .slice (some ⟨B + i / 4, 0, none⟩) np np else .slice none 0 0)
  else if i % 4 = 1 then .int .i64 0 else if i % 4 = 2 then .int .i64 0 else .bool false
theorem made_blocks (w : World) (nb : Nat) (B np : Nat) : (w.alloc (.cells (madeCells (Value.agg #[.slice none 0 0, .int .i64 0, .int .i64 0, .bool false]).cells (nb * 4)) 132)).rowIs w.heap.size 132 (4 * nb) (newCell B np 0) := by
  have hc : (Value.agg #[.slice none 0 0, .int .i64 0, .int .i64 0, .bool false]).cells = #[.slice none 0 0, .int .i64 0, .int .i64 0, .bool false] := by rfl
  rw [hc]
  refine ⟨_, heap_alloc_new _ _, by rw [size_madeCells]; omega, fun i hi => ?_⟩
  have h4 : i % 4 = 0 ∨ i % 4 = 1 ∨ i % 4 = 2 ∨ i % 4 = 3 := by omega
  rcases h4 with e | e | e | e <;> simp [madeCells, newCell, e, show i < nb * 4 by omega]
theorem made_pages (w : World) (np sz : Nat) : PgsIn (w.alloc (.cells (madeCells (Value.agg #[.int .i64 0, .bool false, .slice none 0 0]).cells (np * 3)) 147)) w.heap.size np sz newBk := by
  have hc : (Value.agg #[.int .i64 0, .bool false, .slice none 0 0]).cells = #[.int .i64 0, .bool false, .slice none 0 0] := by rfl
  rw [hc]
  refine ⟨fun _ => .slice none 0 0, ⟨_, heap_alloc_new _ _, by rw [size_madeCells]; omega, fun i hi => ?_⟩, fun _ _ => ⟨_, _, _, rfl⟩, fun p _ h => by simp [newBk, pg0] at h⟩
  have h3 : i % 3 = 0 ∨ i % 3 = 1 ∨ i % 3 = 2 := by omega
  rcases h3 with e | e | e <;> simp [madeCells, pgCell, newBk, pg0, e, show i < np * 3 by omega]

def NewIn (nb np sz : Nat) (w : World) (k : Nat) (wr : World) : Prop :=
  wr.heap.size = w.heap.size + 2 + k ∧ wr.heap[w.heap.size + 1]? = some (.cells (chTop w.heap.size (newCh nb np sz)) 125 (0, 0)) ∧
    wr.rowIs w.heap.size 132 (4 * nb) (newCell (w.heap.size + 2) np k) ∧ (∀ b, b < k → PgsIn wr (w.heap.size + 2 + b) np sz newBk) ∧ Upd noBlock w wr
theorem NewIn.drew {nb np sz k : Nat} {w wr : World} (h : NewIn nb np sz w k wr) : NewIn nb np sz w k wr.drew :=
  ⟨h.1, h.2.1, h.2.2.1.drew, fun b hb => (h.2.2.2.1 b hb).grow (Upd.refl noBlock wr).drew, h.2.2.2.2.drew⟩
theorem NewIn.start (nb np sz : Nat) (w : World) (O : Obj) (hO : O = .cells (madeCells (Value.agg #[.slice none 0 0, .int .i64 0, .int .i64 0, .bool false]).cells (nb * 4)) 132) :
    NewIn nb np sz w 0 ((w.alloc O).alloc (.cells (chTop w.heap.size (newCh nb np sz)) 125)) := by
  subst hO
  refine ⟨by simp, ?_, (made_blocks w nb _ np).alloc _, fun b hb => absurd hb (Nat.not_lt_zero b), ((Upd.refl noBlock w).alloc _).alloc _⟩
  have := heap_alloc_new (w.alloc (.cells (madeCells (Value.agg #[.slice none 0 0, .int .i64 0, .int .i64 0, .bool false]).cells (nb * 4)) 132)) (.cells (chTop w.heap.size (newCh nb np sz)) 125)
  rw [World.size_alloc] at this
  exact this
theorem NewIn.step {nb np sz k : Nat} {w wr : World} (h : NewIn nb np sz w k wr) (hk : k < nb) (O : Obj) (hO : O = .cells (madeCells (Value.agg #[.int .i64 0, .bool false, .slice none 0 0]).cells (np * 3)) 147) :
    NewIn nb np sz w (k + 1) ((wr.alloc O).setCell ⟨w.heap.size, k * 4, none⟩ (.slice (some ⟨wr.heap.size, 0, none⟩) np np)) := by
  obtain ⟨h1, h2, h3, h4, h5⟩ := h
  have hp := made_pages wr np sz
  subst hO
  have hu : Upd (oneBlock w.heap.size) (wr.alloc (.cells (madeCells (Value.agg #[.int .i64 0, .bool false, .slice none 0 0]).cells (np * 3)) 147))
      ((wr.alloc (.cells (madeCells (Value.agg #[.int .i64 0, .bool false, .slice none 0 0]).cells (np * 3)) 147)).setCell ⟨w.heap.size, k * 4, none⟩ (.slice (some ⟨wr.heap.size, 0, none⟩) np np)) :=
    (Upd.refl (oneBlock w.heap.size) _).setCell (p := ⟨w.heap.size, k * 4, none⟩) (.inl rfl) _
  have hrow := h3.alloc (.cells (madeCells (Value.agg #[.int .i64 0, .bool false, .slice none 0 0]).cells (np * 3)) 147)
  have hR : ∀ g y z, (wr.alloc (.cells (madeCells (Value.agg #[.int .i64 0, .bool false, .slice none 0 0]).cells (np * 3)) 147)).heap[g]? = some (.cells y 5 z) → ¬ oneBlock w.heap.size g := by
    intro g y z hg e
    obtain ⟨y', hy'⟩ := row_block hrow
    exact apart hg hy' (by decide) e
  refine ⟨by simp [h1]; omega, ?_, ?_, fun b hb => ?_, ?_⟩
  · exact hu.cells (block_alloc h2 _) (by show ¬ w.heap.size + 1 = w.heap.size; omega)
  · refine (hrow.set (k * 4) _).congr fun i hi => ?_
    unfold newCell
    by_cases e : i = k * 4
    · subst e
      simp only [if_true, if_pos (show k * 4 % 4 = 0 by omega), show k * 4 / 4 = k by omega, if_pos (show k < k + 1 by omega), h1]
    · rw [if_neg e]
      by_cases e0 : i % 4 = 0
      · simp only [e0, if_true]
        by_cases e1 : i / 4 < k
        · rw [if_pos e1, if_pos (by omega)]
        · rw [if_neg e1, if_neg (by omega)]
      · simp only [if_neg e0]
  · by_cases e : b < k
    · exact ((h4 b e).grow ((Upd.refl noBlock wr).alloc _)).upd hu (by show ¬ w.heap.size + 2 + b = w.heap.size; omega) hR
    · have e2 : b = k := by omega
      subst e2
      rw [h1] at hp
      refine PgsIn.upd ?_ hu (by show ¬ w.heap.size + 2 + b = w.heap.size; omega) hR
      exact hp
  · exact (h5.alloc _).setCell (p := ⟨w.heap.size, k * 4, none⟩) (.inr (Nat.le_refl _)) _
theorem NewIn.done {nb np sz : Nat} {w wr : World} (h : NewIn nb np sz w nb wr) (h1 : nb ≤ 64) (h2 : np ≤ 64) (h3 : sz ≤ 2048) :
    ChipIn wr (w.heap.size + 1) w.heap.size (fun b => w.heap.size + 2 + b) (newCh nb np sz) :=
  ⟨h.2.1, h.2.2.1.congr (fun i hi => by
    unfold newCell bkCell
    have : i / 4 < nb := by omega
    simp [this, newCh, newBk]), fun b hb => h.2.2.2.1 b hb, fun b b' _ _ e => by omega, h1, h2, h3⟩

def NewChip (nb np sz : Nat) (w w' : World) (e : Ending) : Prop :=
  e = .returned (.tuple #[.pointer (some ⟨w.heap.size + 1, 0, none⟩), .int .i64 0]) ∧ ChipIn w' (w.heap.size + 1) w.heap.size (fun b => w.heap.size + 2 + b) (newCh nb np sz) ∧ Upd noBlock w w'
set_option maxRecDepth 100000 in
set_option maxHeartbeats 1600000 in
theorem chipNew_any (nb np sz : Nat) (w : World) (h1 : 1 ≤ nb) (h2 : nb ≤ 64) (h3 : 4 ≤ np) (h4 : np ≤ 64) (h5 : np % 4 = 0) (h6 : 1 ≤ sz) (h7 : sz ≤ 2048) :
    Calls Tryz.prog 33 #[.int .i64 (nb : Int), .int .i64 (np : Int), .int .i64 (sz : Int)] w fun e w' => NewChip nb np sz w w' e := by
  obtain ⟨O1, HO1, hm1⟩ : ∃ O : Obj, Hid (O = .cells (madeCells (Value.agg #[.slice none 0 0, .int .i64 0, .int .i64 0, .bool false]).cells (nb * 4)) 132) ∧ ∀ w : World, (Instr.makeSlice 120 (.int .i64 (nb : Int)) (.int .i64 (nb : Int))).run Tryz.prog w = .ok (.slice (some ⟨w.heap.size, 0, none⟩) nb nb) (w.alloc O) :=
    ⟨_, rfl, run_make_wide (P := Tryz.prog) _ _ _ 4 48 Tryz.underlying120 blockInfo nb (by omega) (by omega)⟩
  obtain ⟨O2, HO2, hm2⟩ : ∃ O : Obj, Hid (O = .cells (madeCells (Value.agg #[.int .i64 0, .bool false, .slice none 0 0]).cells (np * 3)) 147) ∧ ∀ w : World, (Instr.makeSlice 130 (.int .i64 (np : Int)) (.int .i64 (np : Int))).run Tryz.prog w = .ok (.slice (some ⟨w.heap.size, 0, none⟩) np np) (w.alloc O) :=
    ⟨_, rfl, run_make_wide (P := Tryz.prog) _ _ _ 3 40 Tryz.underlying130 pageInfo np (by omega) (by omega)⟩
  have d1 : decide ((nb : Int) < 1) = false := decide_eq_false (by omega)
  have d2 : decide (64 < (nb : Int)) = false := decide_eq_false (by omega)
  have d3 : decide ((np : Int) < 4) = false := decide_eq_false (by omega)
  have d4 : decide (64 < (np : Int)) = false := decide_eq_false (by omega)
  have d5 : ((np : Int) % 4 != 0) = false := by rw [show (np : Int) % 4 = 0 by omega]; rfl
  have d6 : decide ((sz : Int) < 1) = false := decide_eq_false (by omega)
  have d7 : decide (2048 < (sz : Int)) = false := decide_eq_false (by omega)
  have S := Lib.hid (NewIn.start nb np sz w O1 HO1.out)
  have H5 := Lib.hid h5
  clear h5
  go_enter Tryz.func33, Tryz.ntmps33
  go_wp2
  obtain ⟨B, hB⟩ : ∃ B, B = w.heap.size := ⟨_, rfl⟩
  have HB := Lib.hid hB
  rw [← hB]
  clear hB HO1 hm1
  have S2 : Hid (NewIn nb np sz w 0 ((w.alloc O1).alloc (.cells (chTop B (newCh nb np sz)) 125))) := Lib.hid (by rw [HB.out]; exact S.out)
  clear S
  go_loopw [48] (fun i wr => ∃ k : Nat, k ≤ nb ∧ i = .int .i64 k ∧ Hid (NewIn nb np sz w k wr)) (fun i _ => nb - (intOf i).toNat)
  case atStart => exact ⟨0, Nat.zero_le _, rfl, S2⟩
  case round =>
    obtain ⟨k, hk, rfl, hR⟩ := hrel
    have c0 : wr.cell? ⟨B + 1, 0, none⟩ = some (.slice (some ⟨B, 0, none⟩) nb nb) := by rw [HB.out]; exact cell_of hR.out.2.1 0
    by_cases hlt : k < nb
    · have c1 : wr.cell? ⟨B, k * 4, none⟩ = some (.slice none 0 0) := by
        rw [HB.out, hR.out.2.2.1.cell (by omega)]
        unfold newCell
        rw [if_pos (by omega), if_neg (by omega)]
      have hb1 : B < wr.heap.size := by have := hR.out.1; have := HB.out; omega
      have hb2 : B + 1 < wr.heap.size := by have := hR.out.1; have := HB.out; omega
      have f1 : wr.frozen? ⟨B, k * 4, none⟩ = false := by rw [HB.out]; exact hR.out.2.2.1.frozen _
      have b1 : 0 ≤ (k : Int) := by omega
      have b2 : (k : Int) < nb := by omega
      go_wp2
      go_region
      all_goals go_wp2
      all_goals go_roundw
      case rel => exact ⟨k + 1, by omega, by go_num, Lib.hid (by
        have := hR.out.step hlt O2 HO2.out
        rw [← HB.out, World.setCell_alloc_past _ _ _ _ hb1] at this
        exact this.drew)⟩
      case measure => simp [intOf]; omega
    · have hd : decide (k < nb) = false := decide_eq_false hlt
      go_wp2
      go_ret2
      have hkn : k = nb := by omega
      subst hkn
      exact ⟨by rw [HB.out]; rfl, hR.out.done h2 h4 h7, hR.out.2.2.2.2⟩
end Go.Proofs.YtoledgpcgjdjjaaGreatDoor

/- Walks over package nand: what a spoilt page shows; no noise; Read. -/
namespace Go.Proofs.YtoledgpcgjdjjaaGreatDoor
open Go.RowKit

theorem byteInfo : (Tryz.prog.info? 5).map (fun i => (i.zero, i.size, i.bytes)) = some (some (.int .u8 0), 1, 1) := by kernel_rfl
theorem made_bytes (w : World) (n : Nat) (hn : n ≤ maxLen) : Bs (w.alloc (.cells (madeCells (Value.int .u8 0).cells (n * 1)) 5)) w.heap.size 5 (.slice (some ⟨w.heap.size, 0, none⟩) n n) (List.replicate n 0) := by
  have hc : (Value.int .u8 0).cells = #[.int .u8 0] := by rfl
  rw [hc]
  refine ⟨w.heap.size, n, _, (0, 0), by simp, Nat.le_refl _, heap_alloc_new _ _, .inl rfl, by simp, hn, by rw [size_madeCells]; omega, fun j hj => ?_⟩
  simp at hj
  simp [madeCells, hj, Nat.mod_one]
set_option maxRecDepth 100000 in
theorem shown_spoilt (q np sz p : Nat) (B : Bk) (w : World) (h : PgsIn w q np sz B) (hp : p < np) (hs : (B.pg p).st = 2) (n : Nat) (hn : n ≤ 2048) :
    Calls Tryz.prog 120 #[.pointer (some ⟨q, 3 * p, none⟩), .int .i64 (n : Int)] w fun e w' => ∃ v, e = .returned v ∧ Bs w' w.heap.size 5 v (List.replicate n 0) ∧ Upd noBlock w w' := by
  obtain ⟨c0, _, _, _⟩ := pgs_cells h hp
  rw [hs] at c0
  obtain ⟨O, HO, hm⟩ : ∃ O : Obj, Hid (O = .cells (madeCells (Value.int .u8 0).cells (n * 1)) 5) ∧ ∀ w : World, (Instr.makeSlice 105 (.int .i64 (n : Int)) (.int .i64 (n : Int))).run Tryz.prog w = .ok (.slice (some ⟨w.heap.size, 0, none⟩) n n) (w.alloc O) :=
    ⟨_, rfl, run_make_wide (P := Tryz.prog) _ _ _ 1 1 Tryz.underlying105 byteInfo n (by omega) (by omega)⟩
  have HB := Lib.hid (made_bytes w n (by unfold maxLen; omega))
  rw [← HO.out] at HB
  clear HO h hs
  go_enter Tryz.func120, Tryz.ntmps120
  go_wp2
  go_ret
  exact ⟨_, rfl, HB.out, (Upd.refl noBlock w).alloc _⟩

set_option maxRecDepth 100000 in
theorem quiet_any (seed most piece : Int) (v : Value) (r b p : Int) (w : World) (h : most < 1 ∨ piece < 1) (hv : ∃ a n k, v = .slice a n k) :
    Calls Tryz.prog 121 #[.agg #[.int .u64 seed, .int .i64 most, .int .i64 piece], v, .int .i64 r, .int .i64 b, .int .i64 p] w fun e w' => e = .returned (.tuple #[]) ∧ Upd noBlock w w' := by
  obtain ⟨va, vn, vk, rfl⟩ := hv
  by_cases h1 : most < 1
  · clear h
    go_enter Tryz.func121, Tryz.ntmps121
    go_wp2
    refine bodyPost_ret (results_none rfl _ _ _) rfl ?_
    exact ⟨rfl, (Upd.refl noBlock w).alloc _⟩
  · have h2 : piece < 1 := by omega
    clear h
    go_enter Tryz.func121, Tryz.ntmps121
    go_wp2
    refine bodyPost_ret (results_none rfl _ _ _) rfl ?_
    exact ⟨rfl, (Upd.refl noBlock w).alloc _⟩
end Go.Proofs.YtoledgpcgjdjjaaGreatDoor
