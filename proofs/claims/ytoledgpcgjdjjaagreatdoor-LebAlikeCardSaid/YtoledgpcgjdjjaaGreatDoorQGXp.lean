import Derived.Test.YtoledgpcgjdjjaaGreatDoorQGXn
import Derived.Test.YtoledgpcgjdjjaaGreatDoorQGNC
import Derived.Maps.RangeWalk
/- Blocks of a volume with no logical block. -/
namespace Go.Proofs.YtoledgpcgjdjjaaGreatDoor
open F
open Go.RowKit Pm Cm
set_option linter.unusedVariables false
attribute [local irreducible] openL decUp empUp Lib.onesCount parT sealed beZ valN labelL

theorem wblkInfo : (Tryz.prog.info? 66).map (fun i => (i.zero, i.size, i.bytes)) = some (some (.agg #[.int .i64 0, .int .i64 0, .bool false, .bool false]), 4, 24) := by kernel_rfl
def wbC (f : Nat → Pr.Bk) (j : Nat) : Value :=
  if j % 4 = 0 then .int .i64 (f (j / 4)).er else if j % 4 = 1 then .int .i64 (f (j / 4)).rd else if j % 4 = 2 then .bool (f (j / 4)).us else .bool (f (j / 4)).wo
def bk0 : Pr.Bk := ⟨0, 0, false, false⟩
theorem wbC_set {w : World} {g n : Nat} {f : Nat → Pr.Bk} (h : w.rowIs g 66 (4 * n) (wbC f)) (i : Nat) (e r : Int) (u o : Bool) :
    ((((w.setCell ⟨g, i * 4, none⟩ (.int .i64 e)).setCell ⟨g, i * 4 + 1, none⟩ (.int .i64 r)).setCell ⟨g, i * 4 + 2, none⟩ (.bool u)).setCell ⟨g, i * 4 + 3, none⟩ (.bool o)).rowIs g 66 (4 * n) (wbC fun k => if k = i then ⟨e, r, u, o⟩ else f k) := by
  refine ((((h.set (i * 4) _).set (i * 4 + 1) _).set (i * 4 + 2) _).set (i * 4 + 3) _).congr fun j hj => ?_
  unfold wbC
  by_cases e3 : j = i * 4 + 3
  · subst e3
    simp only [if_true, if_neg (show ¬ (i * 4 + 3) % 4 = 0 by omega), if_neg (show ¬ (i * 4 + 3) % 4 = 1 by omega), if_neg (show ¬ (i * 4 + 3) % 4 = 2 by omega), show (i * 4 + 3) / 4 = i by omega]
  · by_cases e2 : j = i * 4 + 2
    · subst e2
      simp only [if_true, if_neg (show ¬ i * 4 + 2 = i * 4 + 3 by omega), if_neg (show ¬ (i * 4 + 2) % 4 = 0 by omega), if_neg (show ¬ (i * 4 + 2) % 4 = 1 by omega), if_pos (show (i * 4 + 2) % 4 = 2 by omega), show (i * 4 + 2) / 4 = i by omega]
    · by_cases e1 : j = i * 4 + 1
      · subst e1
        simp only [if_true, if_neg (show ¬ i * 4 + 1 = i * 4 + 3 by omega), if_neg (show ¬ i * 4 + 1 = i * 4 + 2 by omega), if_neg (show ¬ (i * 4 + 1) % 4 = 0 by omega), if_pos (show (i * 4 + 1) % 4 = 1 by omega), show (i * 4 + 1) / 4 = i by omega]
      · by_cases e0 : j = i * 4
        · subst e0
          simp only [if_true, if_neg (show ¬ i * 4 = i * 4 + 3 by omega), if_neg (show ¬ i * 4 = i * 4 + 2 by omega), if_neg (show ¬ i * 4 = i * 4 + 1 by omega), if_pos (show (i * 4) % 4 = 0 by omega), show (i * 4) / 4 = i by omega]
        · have hne : ¬ j / 4 = i := by omega
          simp only [if_neg e3, if_neg e2, if_neg e1, if_neg e0, if_neg hne]
theorem wbC_made (w : World) (n : Nat) : (w.alloc (.cells (madeCells (Value.agg #[.int .i64 0, .int .i64 0, .bool false, .bool false]).cells (n * 4)) 66)).rowIs w.heap.size 66 (4 * n) (wbC fun _ => bk0) := by
  refine ⟨_, heap_alloc_new w _, by rw [size_madeCells]; omega, fun j hj => ?_⟩
  have h4 : j % 4 = 0 ∨ j % 4 = 1 ∨ j % 4 = 2 ∨ j % 4 = 3 := by omega
  rcases h4 with e | e | e | e <;> simp [madeCells, Value.cells, wbC, bk0, e, show j < n * 4 by omega]
theorem wbC_blks {w : World} {g n : Nat} {f : Nat → Pr.Bk} (h : w.rowIs g 66 (4 * n) (wbC f)) : Pr.Blks w w.heap.size (some ⟨g, 0, none⟩) n f := fun h0 => by
  refine ⟨g, 0, rfl, h.lt, fun i hi => ⟨?_, ?_, ?_, ?_⟩⟩
  · rw [Nat.zero_add, h.cell (show i * 4 < 4 * n by omega)]
    unfold wbC
    rw [if_pos (by omega), show i * 4 / 4 = i by omega]
  · rw [Nat.zero_add, h.cell (show i * 4 + 1 < 4 * n by omega)]
    unfold wbC
    rw [if_neg (by omega), if_pos (by omega), show (i * 4 + 1) / 4 = i by omega]
  · rw [Nat.zero_add, h.cell (show i * 4 + 2 < 4 * n by omega)]
    unfold wbC
    rw [if_neg (by omega), if_neg (by omega), if_pos (by omega), show (i * 4 + 2) / 4 = i by omega]
  · rw [Nat.zero_add, h.cell (show i * 4 + 3 < 4 * n by omega)]
    unfold wbC
    rw [if_neg (by omega), if_neg (by omega), if_neg (by omega), show (i * 4 + 3) / 4 = i by omega]
def freeB (M : Ch) (V : Vo) (i k : Nat) : Pr.Bk := if k < i then ⟨((M.bk k).er : Int), ((M.bk k).rd : Int), false, V.worn k⟩ else bk0
theorem freeB_next (M : Ch) (V : Vo) (i k : Nat) : (if k = i then (⟨((M.bk i).er : Int), ((M.bk i).rd : Int), false, V.worn i⟩ : Pr.Bk) else freeB M V i k) = freeB M V (i + 1) k := by
  unfold freeB
  by_cases e : k = i
  · subst e; rw [if_pos rfl, if_pos (by omega)]
  · rw [if_neg e]
    by_cases h : k < i
    · rw [if_pos h, if_pos (by omega)]
    · rw [if_neg h, if_neg (by omega)]
theorem Upd.grownOwnN {a b c : World} (h : Upd noBlock a b) (g : b.grownBy c none) : Upd noBlock a c :=
  ⟨g.os.trans h.os, g.tape.trans h.tape, g.output.trans h.output, Nat.le_trans h.size g.size, fun i hi hn => (g.block i (Nat.lt_of_lt_of_le hi h.size) (fun e => by cases e)).trans (h.block i hi hn)⟩
section
variable {A : Vp} {M : Ch} {V : Vo} {w : World}
set_option maxRecDepth 100000 in
set_option maxHeartbeats 6400000 in
theorem blocks_empty (h : VolIn w A M V) (hf : ∀ x, Wf x → V.f x = none) :
    Calls Tryz.prog 27 #[.pointer (some ⟨A.v, 0, none⟩)] w fun e w' => ∃ g, e = .returned (.slice (some ⟨g, 0, none⟩) M.nb M.nb) ∧ w.heap.size ≤ g ∧ w'.rowIs g 66 (4 * M.nb) (wbC (freeB M V M.nb)) ∧ Upd noBlock w w' := by
  have hnb := h.nb1
  obtain ⟨O, HO, hmk⟩ : ∃ O : Obj, Hid (O = .cells (madeCells (Value.agg #[.int .i64 0, .int .i64 0, .bool false, .bool false]).cells (M.nb * 4)) 66) ∧ ∀ W : World, (Instr.makeSlice 62 (.int .i64 (M.nb : Int)) (.int .i64 (M.nb : Int))).run Tryz.prog W = .ok (.slice (some ⟨W.heap.size, 0, none⟩) M.nb M.nb) (W.alloc O) :=
    ⟨_, rfl, run_make_wide (P := Tryz.prog) _ _ _ 4 24 Tryz.underlying62 wblkInfo M.nb (by omega) (by omega)⟩
  obtain ⟨c0, c1, c2, c3, c4, c5, c6⟩ := h.cells
  have p0 : w.cell? ⟨A.q, 0, none⟩ = some (.int .i64 (M.nb : Int)) := cell_of h.pgr.pg 0
  have H := Lib.hid h
  obtain ⟨wa, hwa⟩ : ∃ wa, wa = w.alloc O := ⟨_, rfl⟩
  obtain ⟨g, hg⟩ : ∃ g, g = w.heap.size := ⟨_, rfl⟩
  have RA : Hid (wa.rowIs g 66 (4 * M.nb) (wbC (freeB M V 0))) := by
    rw [hwa, hg, HO.out]
    exact (wbC_made w M.nb).congr fun i hi => by
      unfold wbC freeB
      simp
  have UA : Hid (Upd noBlock w wa) := by rw [hwa]; exact (Upd.refl _ _).alloc _
  have HG : Hid (w.heap.size ≤ g) := Nat.le_of_eq hg.symm
  clear h
  go_enter Tryz.func27, Tryz.ntmps27
  go_upto_region 4 with fail
  rw [← hwa, ← hg]
  clear hwa hg hmk p0 c0 c1 c2 c3 c4 c5 c6
  go_wp2
  go_loopw [4, 5, 6, 22] (fun s4 s5 s6 s22 wr => ∃ (ii : Nat) (v4 v5 v6 : Value), ii ≤ M.nb ∧ s22 = .int .i64 (ii : Int) ∧ s4 = v4 ∧ s5 = v5 ∧ s6 = v6 ∧ Hid (Upd noBlock w wr) ∧ Hid (wr.rowIs g 66 (4 * M.nb) (wbC (freeB M V ii)))) (fun _ _ _ i _ => M.nb - (intOf i).toNat)
  case atStart => exact ⟨0, _, _, _, Nat.zero_le _, rfl, rfl, rfl, rfl, UA, RA⟩
  case round =>
    clear UA RA
    obtain ⟨ii, v4, v5, v6, hi, rfl, rfl, rfl, rfl, HU, HR⟩ := hrel
    by_cases h0 : ii < M.nb
    · have di : decide ((ii : Int) < (M.nb : Int)) = true := decide_eq_true (by omega)
      have di2 : decide (ii < M.nb) = true := decide_eq_true h0
      have HV := Lib.hid (H.out.grow HU.out)
      obtain ⟨c0, c1, c2, c3, c4, c5, c6⟩ := HV.out.cells
      have HCN := Lib.hid (counts_in A.ch A.bb A.pb M ii wr HV.out.pgr.chip h0)
      have i1 : (0 : Int) ≤ (ii : Int) := by omega
      have i2 : (ii : Int) < (M.nb : Int) := by omega
      go_upto_region 8 with (go_at_call 56; (with_reducible refine HCN.out.mono ?_); rintro e w2 ⟨rfl, hk⟩; have HK := Lib.hid hk; clear hk)
      have u2 : Upd noBlock wr w2 := by
        obtain ⟨k, rfl⟩ := HK.out
        exact (Upd.refl _ _).drewN k
      have V2 := Lib.hid (HV.out.grow u2)
      have R2 := Lib.hid (row_upd HR.out u2 (fun h => h))
      have U2 := Lib.hid (HU.out.trans u2)
      clear c0 c1 c2 c3 c4 c5 c6 u2 HCN HV HR HU
      obtain ⟨c0, c1, c2, c3, c4, c5, c6⟩ := V2.out.cells
      have cw := V2.out.worn.cell h0
      have q0 := R2.out.cell (show ii * 4 < 4 * M.nb by omega)
      have q1 := R2.out.cell (show ii * 4 + 1 < 4 * M.nb by omega)
      have q2 := R2.out.cell (show ii * 4 + 2 < 4 * M.nb by omega)
      have q3 := R2.out.cell (show ii * 4 + 3 < 4 * M.nb by omega)
      have f0 := R2.out.frozen (ii * 4)
      have f1 := R2.out.frozen (ii * 4 + 1)
      have f2 := R2.out.frozen (ii * 4 + 2)
      have f3 := R2.out.frozen (ii * 4 + 3)
      have hS2 := wbC_set R2.out ii ((M.bk ii).er : Int) ((M.bk ii).rd : Int) false (V.worn ii)
      have eS2 : (fun k => if k = ii then (⟨((M.bk ii).er : Int), ((M.bk ii).rd : Int), false, V.worn ii⟩ : Pr.Bk) else freeB M V ii k) = freeB M V (ii + 1) := funext (freeB_next M V ii)
      rw [eS2] at hS2
      have S2 := Lib.hid hS2
      clear hS2 eS2
      have T2 := Lib.hid ((((U2.out.setCell (p := ⟨g, ii * 4, none⟩) (.inr HG.out) (.int .i64 ((M.bk ii).er : Int))).setCell (p := ⟨g, ii * 4 + 1, none⟩) (.inr HG.out) (.int .i64 ((M.bk ii).rd : Int))).setCell (p := ⟨g, ii * 4 + 2, none⟩) (.inr HG.out) (.bool false)).setCell (p := ⟨g, ii * 4 + 3, none⟩) (.inr HG.out) (.bool (V.worn ii)))
      generalize wbC (freeB M V ii) (ii * 4) = y0 at *
      generalize wbC (freeB M V ii) (ii * 4 + 1) = y1 at *
      generalize wbC (freeB M V ii) (ii * 4 + 2) = y2 at *
      generalize wbC (freeB M V ii) (ii * 4 + 3) = y3 at *
      go_wp2
      go_roundw
      case rel => exact ⟨ii + 1, _, _, _, by omega, by go_num, rfl, rfl, rfl, T2, S2⟩
      case measure => simp [intOf]; omega
    · obtain rfl : ii = M.nb := by omega
      have HV := H.out.grow HU.out
      obtain ⟨c0, c1, c2, c3, c4, c5, c6⟩ := HV.cells
      obtain ⟨D, hown, hD⟩ := HV.map
      have HNO : Hid (∀ x kl, keyOf Tryz.prog 3 x = some kl → Maps.has D kl = true → False) := fun x kl hk hh => by
        obtain ⟨y, rfl, rfl, hw⟩ := Maps.keyOf_int_inv Tryz.underlying3 hk
        have h9 := (hD y hw).1
        rw [hf y hw, hh] at h9
        cases h9
      have HOW := Lib.hid hown
      clear hown hD HV
      go_wp2_with (first
        | (at_range; refine wpList_range_own _ rfl (.tmp 51) 78 rfl 3 94 keyedI Tryz.underlying78 opq A.mb V.n D rfl HOW.out ?_; intro w3 hr3 hg3 hs3; have R3 := Lib.hid hr3; have G3 := Lib.hid hg3; clear hr3 hg3 hs3))
      simp only [Act.put, List.setIfInBounds_toArray, List.set_cons_zero, List.set_cons_succ]
      have U3 := Lib.hid (HU.out.trans ((Upd.refl noBlock wr).grownOwnN G3.out))
      have Q3 : Hid (w3.rowIs g 66 (4 * M.nb) (wbC (freeB M V M.nb))) := row_upd HR.out ((Upd.refl noBlock wr).grownOwnN G3.out) (fun h => h)
      clear c0 c1 c2 c3 c4 c5 c6 HR HU G3 HOW
      generalize wr.heap.size = rr at *
      go_loopw [8] (fun s8 wr2 => ∃ v8, s8 = v8 ∧ Hid (wr2 = w3)) (fun _ _ => 0)
      case atStart => exact ⟨_, rfl, rfl⟩
      case round =>
        obtain ⟨v8, rfl, HW⟩ := hrel
        have hww := HW.out
        subst hww
        go_wp2_with (first
          | (at_next; refine wpList_next_ranges _ rfl (.tmp 52) rfl 3 keyedI opq (fun v : Value => v) (fun v : Value => v) (fun key kl _ => ⟨key, rfl⟩) (fun v y _ => ⟨v, rfl⟩) A.mb rr V.n D (Maps.has D) (Maps.size D) rfl R3.out ?_ (fun x c kl y w' cnt' hk hl _ _ _ _ _ _ _ => (HNO.out x kl hk hl).elim); intro _ _))
        go_ret
        exact ⟨g, rfl, HG.out, Q3.out, U3.out⟩
end
end Go.Proofs.YtoledgpcgjdjjaaGreatDoor

/- No volume. -/
namespace Go.Proofs.YtoledgpcgjdjjaaGreatDoor
open F
open Go.RowKit Pm Cm
set_option linter.unusedVariables false
attribute [local irreducible] openL decUp empUp Lib.onesCount parT sealed beZ valN labelL

set_option maxRecDepth 100000 in
theorem room_nil (s : Bool) (w : World) : Calls Tryz.prog 20 #[.pointer none, .bool s] w fun e w' => e = .returned (.tuple #[.int .i64 0, .int .i64 0]) ∧ Upd noBlock w w' := by
  go_enter Tryz.func20, Tryz.ntmps20
  go_wp2_with fail
  go_ret2
  exact ⟨rfl, Upd.refl _ _⟩
set_option maxRecDepth 100000 in
theorem count_nil (id : Int) (w : World) : Calls Tryz.prog 21 #[.pointer none, .int .i64 id] w fun e w' => e = .returned (.tuple #[.int .i64 0, .bool false]) ∧ Upd noBlock w w' := by
  go_enter Tryz.func21, Tryz.ntmps21
  go_wp2_with fail
  go_ret2
  exact ⟨rfl, Upd.refl _ _⟩
set_option maxRecDepth 100000 in
theorem vread_nil (id n : Int) (w : World) : Calls Tryz.prog 16 #[.pointer none, .int .i64 id, .int .i64 n] w fun e w' => e = .returned (.tuple #[.string ⟨#[]⟩, .int .i64 1]) ∧ Upd noBlock w w' := by
  go_enter Tryz.func16, Tryz.ntmps16
  go_wp2_with fail
  go_ret2
  exact ⟨rfl, Upd.refl _ _⟩
set_option maxRecDepth 100000 in
theorem ids_nil (w : World) : Calls Tryz.prog 22 #[.pointer none] w fun e w' => e = .returned (.slice none 0 0) ∧ Upd noBlock w w' := by
  go_enter Tryz.func22, Tryz.ntmps22
  go_wp2_with fail
  go_ret
  exact ⟨rfl, Upd.refl _ _⟩
set_option maxRecDepth 100000 in
theorem map_nil (id : Int) (s : Bool) (w : World) : Calls Tryz.prog 23 #[.pointer none, .int .i64 id, .bool s] w fun e w' => e = .returned (.int .i64 1) ∧ Upd noBlock w w' := by
  go_enter Tryz.func23, Tryz.ntmps23
  go_wp2_with fail
  go_ret
  exact ⟨rfl, Upd.refl _ _⟩
set_option maxRecDepth 100000 in
theorem unmap_nil (id : Int) (w : World) : Calls Tryz.prog 26 #[.pointer none, .int .i64 id] w fun e w' => e = .returned (.int .i64 1) ∧ Upd noBlock w w' := by
  go_enter Tryz.func26, Tryz.ntmps26
  go_wp2_with fail
  go_ret
  exact ⟨rfl, Upd.refl _ _⟩
set_option maxRecDepth 100000 in
theorem change_nil (id : Int) (s : Bool) (w : World) : Calls Tryz.prog 13 #[.pointer none, .int .i64 id, .bool s, .slice none 0 0] w fun e w' => e = .returned (.int .i64 1) ∧ Upd noBlock w w' := by
  go_enter Tryz.func13, Tryz.ntmps13
  go_wp2_with fail
  go_ret
  exact ⟨rfl, Upd.refl _ _⟩
set_option maxRecDepth 100000 in
theorem blocks_nil (w : World) : Calls Tryz.prog 27 #[.pointer none] w fun e w' => e = .returned (.slice none 0 0) ∧ Upd noBlock w w' := by
  go_enter Tryz.func27, Tryz.ntmps27
  go_wp2_with fail
  go_ret
  exact ⟨rfl, Upd.refl _ _⟩
set_option maxRecDepth 100000 in
set_option maxHeartbeats 1600000 in
theorem openOne_nil (id : Int) (w : World) : Calls Tryz.prog 51 #[.pointer none, .int .i64 id] w fun e w' => e = .returned (.tuple #[.agg #[.int .i64 0, .int .i64 0, .bool false, .bool false, .int .i64 0, .slice none 0 0, .slice none 0 0, .int .i64 0, .bool false, .bool false, .string ⟨#[]⟩, .string ⟨#[]⟩], .int .i64 1]) ∧ Upd noBlock w w' := by
  obtain ⟨r0, hr0⟩ : ∃ r0, r0 = w.heap.size := ⟨_, rfl⟩
  obtain ⟨wa, hwa⟩ : ∃ wa, wa = w.alloc (.cells #[.int .i64 0, .int .i64 0, .bool false, .bool false, .int .i64 0, .slice none 0 0, .slice none 0 0, .int .i64 0, .bool false, .bool false, .string ⟨#[]⟩, .string ⟨#[]⟩] 94) := ⟨_, rfl⟩
  have UA : Hid (Upd noBlock w wa) := by rw [hwa]; exact (Upd.refl _ _).alloc _
  have br : wa.heap[r0]? = some (.cells #[.int .i64 0, .int .i64 0, .bool false, .bool false, .int .i64 0, .slice none 0 0, .slice none 0 0, .int .i64 0, .bool false, .bool false, .string ⟨#[]⟩, .string ⟨#[]⟩] 94 (0, 0)) := by rw [hwa, hr0]; exact heap_alloc_new w _
  have HR0 : Hid (w.heap.size ≤ r0) := Nat.le_of_eq hr0.symm
  obtain ⟨z0, z1, z2, z3, z4, z5, z6, z7, z8, z9, za, zb⟩ := cells12 br
  obtain ⟨f0, f1, f2, f3, f4, f5, f6, f7, f8, f9, fa, fb⟩ := frees12 br
  obtain ⟨we, hwe⟩ : ∃ we, we = set12C wa r0 (.int .i64 0) (.int .i64 0) (.bool false) (.bool false) (.int .i64 0) (.slice none 0 0) (.slice none 0 0) (.int .i64 0) (.bool false) (.bool false) (.string ⟨#[]⟩) (.string ⟨#[]⟩) := ⟨_, rfl⟩
  have u3 : Upd (oneBlock r0) wa we := by rw [hwe]; exact set12C_upd _ _ _ _ _ _ _ _ _ _ _ _ _ _
  have RE : Hid (we.heap[r0]? = some (.cells #[.int .i64 0, .int .i64 0, .bool false, .bool false, .int .i64 0, .slice none 0 0, .slice none 0 0, .int .i64 0, .bool false, .bool false, .string ⟨#[]⟩, .string ⟨#[]⟩] 94 (0, 0))) := by rw [hwe]; exact set12C_at br
  have UE : Hid (Upd noBlock w we) := UA.out.past u3 HR0.out
  unfold set12C at hwe
  clear br u3
  go_enter Tryz.func51, Tryz.ntmps51
  go_upto_region 1 with fail
  rw [← hwa, ← hr0]
  clear hwa hr0
  go_wp2_with fail
  rw [← hwe]
  exact bodyPost_ret_by (ret_cell2F rfl _ _ r0 _ _ _ _ _ rfl RE.out Tryz.underlying94 rfl sdInfo rfl) rfl ⟨rfl, UE.out⟩
set_option maxRecDepth 100000 in
set_option maxHeartbeats 1600000 in
theorem append_nil_v (id : Int) (s : ByteArray) (w : World) : Calls Tryz.prog 24 #[.pointer none, .int .i64 id, .string s] w fun e w' => e = .returned (.int .i64 1) ∧ Upd noBlock w w' := by
  have HO := Lib.hid (fun W => openOne_nil id W)
  go_enter Tryz.func24, Tryz.ntmps24
  go_wp2_with (go_at_call 51; (with_reducible refine (HO.out _).mono ?_); rintro e w1 ⟨rfl, hu⟩; have U1 := Lib.hid hu; clear hu)
  go_ret
  exact ⟨rfl, U1.out.alloc _⟩
set_option maxRecDepth 100000 in
set_option maxHeartbeats 1600000 in
theorem close_nil (id : Int) (w : World) : Calls Tryz.prog 25 #[.pointer none, .int .i64 id] w fun e w' => e = .returned (.int .i64 1) ∧ Upd noBlock w w' := by
  have HO := Lib.hid (fun W => openOne_nil id W)
  go_enter Tryz.func25, Tryz.ntmps25
  go_wp2_with (go_at_call 51; (with_reducible refine (HO.out _).mono ?_); rintro e w1 ⟨rfl, hu⟩; have U1 := Lib.hid hu; clear hu)
  go_ret
  exact ⟨rfl, U1.out.alloc _⟩
end Go.Proofs.YtoledgpcgjdjjaaGreatDoor

/- openOne: a logical block that can be written. -/
namespace Go.Proofs.YtoledgpcgjdjjaaGreatDoor
open F
open Go.RowKit Pm Cm
set_option linter.unusedVariables false
attribute [local irreducible] openL decUp empUp Lib.onesCount parT sealed beZ valN labelL

theorem zeroSd (w : World) : (zeroValue 94).run Tryz.prog w = .ok (.agg #[.int .i64 0, .int .i64 0, .bool false, .bool false, .int .i64 0, .slice none 0 0, .slice none 0 0, .int .i64 0, .bool false, .bool false, .string ⟨#[]⟩, .string ⟨#[]⟩]) w := by kernel_rfl
section
variable {A : Vp} {M : Ch} {V : Vo} {w : World}
set_option maxRecDepth 100000 in
set_option maxHeartbeats 3200000 in
theorem openOne_open (id : Int) (i0 t0 : Int) (ss cc : Bool) (b : Nat) (a1 : Option Addr) (n1 q1 : Nat) (a2 : Option Addr) (n2 q2 : Nat) (pages : Int) (gd : Bool) (s0 s1 : ByteArray) (h : VolIn w A M V) (hid : Wf id) (hf : V.f id = some (.agg #[.int .i64 i0, .int .i64 t0, .bool ss, .bool cc, .int .i64 (b : Int), .slice a1 n1 q1, .slice a2 n2 q2, .int .i64 pages, .bool false, .bool gd, .string s0, .string s1])) :
    Calls Tryz.prog 51 #[.pointer (some ⟨A.v, 0, none⟩), .int .i64 id] w fun e w' => e = .returned (.tuple #[.agg #[.int .i64 i0, .int .i64 t0, .bool ss, .bool cc, .int .i64 (b : Int), .slice a1 n1 q1, .slice a2 n2 q2, .int .i64 pages, .bool false, .bool gd, .string s0, .string s1], .int .i64 0]) ∧ Upd noBlock w w' := by
  obtain ⟨r0, hr0⟩ : ∃ r0, r0 = w.heap.size := ⟨_, rfl⟩
  obtain ⟨wa, hwa⟩ : ∃ wa, wa = w.alloc (.cells #[.int .i64 0, .int .i64 0, .bool false, .bool false, .int .i64 0, .slice none 0 0, .slice none 0 0, .int .i64 0, .bool false, .bool false, .string ⟨#[]⟩, .string ⟨#[]⟩] 94) := ⟨_, rfl⟩
  have UA : Hid (Upd noBlock w wa) := by rw [hwa]; exact (Upd.refl _ _).alloc _
  have HR0 : Hid (w.heap.size ≤ r0) := Nat.le_of_eq hr0.symm
  have ba : wa.heap[r0]? = some (.cells #[.int .i64 0, .int .i64 0, .bool false, .bool false, .int .i64 0, .slice none 0 0, .slice none 0 0, .int .i64 0, .bool false, .bool false, .string ⟨#[]⟩, .string ⟨#[]⟩] 94 (0, 0)) := by rw [hwa, hr0]; exact heap_alloc_new w _
  have HA := h.grow UA.out
  obtain ⟨c0, c1, c2, c3, c4, c5, c6⟩ := HA.cells
  have HL := HA.map.look Tryz.underlying78 (zeroSd wa) id hid
  rw [hf] at HL
  have HL2 : (Instr.lookup 78 (.map (some A.mb)) (.int .i64 id) true).run Tryz.prog wa = .ok (.tuple #[.agg #[.int .i64 i0, .int .i64 t0, .bool ss, .bool cc, .int .i64 (b : Int), .slice a1 n1 q1, .slice a2 n2 q2, .int .i64 pages, .bool false, .bool gd, .string s0, .string s1], .bool true]) wa := HL
  obtain ⟨g, hg⟩ : ∃ g, g = wa.heap.size := ⟨_, rfl⟩
  obtain ⟨wb, hwb⟩ : ∃ wb, wb = wa.alloc (.cells #[.int .i64 i0, .int .i64 t0, .bool ss, .bool cc, .int .i64 (b : Int), .slice a1 n1 q1, .slice a2 n2 q2, .int .i64 pages, .bool false, .bool gd, .string s0, .string s1] 94) := ⟨_, rfl⟩
  have BG : Hid (wb.heap[g]? = some (.cells #[.int .i64 i0, .int .i64 t0, .bool ss, .bool cc, .int .i64 (b : Int), .slice a1 n1 q1, .slice a2 n2 q2, .int .i64 pages, .bool false, .bool gd, .string s0, .string s1] 94 (0, 0))) := by rw [hwb, hg]; exact heap_alloc_new wa _
  have UB : Hid (Upd noBlock w wb) := by rw [hwb]; exact UA.out.alloc _
  have BR : Hid (wb.heap[r0]? = some (.cells #[.int .i64 0, .int .i64 0, .bool false, .bool false, .int .i64 0, .slice none 0 0, .slice none 0 0, .int .i64 0, .bool false, .bool false, .string ⟨#[]⟩, .string ⟨#[]⟩] 94 (0, 0))) := by rw [hwb]; exact block_alloc ba _
  clear h HA HL hf ba
  go_enter Tryz.func51, Tryz.ntmps51
  go_upto_region 1 with fail
  rw [← hwa, ← hr0]
  clear hwa hr0
  go_upto_region 4 with fail
  rw [← hg, ← hwb]
  clear hwb hg HL2 c0 c1 c2 c3 c4 c5 c6
  obtain ⟨y0, y1, y2, y3, y4, y5, y6, y7, y8, y9, ya, yb⟩ := cells12 BG.out
  obtain ⟨z0, z1, z2, z3, z4, z5, z6, z7, z8, z9, za, zb⟩ := cells12 BR.out
  obtain ⟨f0, f1, f2, f3, f4, f5, f6, f7, f8, f9, fa, fb⟩ := frees12 BR.out
  obtain ⟨we, hwe⟩ : ∃ we, we = set12C wb r0 (.int .i64 i0) (.int .i64 t0) (.bool ss) (.bool cc) (.int .i64 (b : Int)) (.slice a1 n1 q1) (.slice a2 n2 q2) (.int .i64 pages) (.bool false) (.bool gd) (.string s0) (.string s1) := ⟨_, rfl⟩
  have u3 : Upd (oneBlock r0) wb we := by rw [hwe]; exact set12C_upd _ _ _ _ _ _ _ _ _ _ _ _ _ _
  have RE : Hid (we.heap[r0]? = some (.cells #[.int .i64 i0, .int .i64 t0, .bool ss, .bool cc, .int .i64 (b : Int), .slice a1 n1 q1, .slice a2 n2 q2, .int .i64 pages, .bool false, .bool gd, .string s0, .string s1] 94 (0, 0))) := by rw [hwe]; exact set12C_at BR.out
  have UE : Hid (Upd noBlock w we) := UB.out.past u3 HR0.out
  unfold set12C at hwe
  clear u3
  go_wp2_with fail
  rw [← hwe]
  exact bodyPost_ret_by (ret_cell2F rfl _ _ r0 _ _ _ _ _ rfl RE.out Tryz.underlying94 rfl sdInfo rfl) rfl ⟨rfl, UE.out⟩
end
end Go.Proofs.YtoledgpcgjdjjaaGreatDoor

/- full; settle: what became of an open block is kept. -/
namespace Go.Proofs.YtoledgpcgjdjjaaGreatDoor
open F
open Go.RowKit Pm Cm
set_option linter.unusedVariables false
attribute [local irreducible] openL decUp empUp Lib.onesCount parT sealed beZ valN labelL

set_option maxRecDepth 100000 in
set_option maxHeartbeats 3200000 in
theorem full_any (i0 t0 : Int) (ss cc : Bool) (b : Nat) (a1 : Option Addr) (n1 q1 : Nat) (a2 : Option Addr) (n2 q2 : Nat) (pages : Int) (cl gd : Bool) (s0 s1 : ByteArray) (w : World) (hn : n1 ≤ 64) :
    Calls Tryz.prog 53 #[.agg #[.int .i64 i0, .int .i64 t0, .bool ss, .bool cc, .int .i64 (b : Int), .slice a1 n1 q1, .slice a2 n2 q2, .int .i64 pages, .bool cl, .bool gd, .string s0, .string s1]] w fun e w' => e = .returned (.bool (decide (pages = (n1 : Int) - 1))) ∧ Upd noBlock w w' := by
  obtain ⟨g, hg⟩ : ∃ g, g = w.heap.size := ⟨_, rfl⟩
  obtain ⟨wa, hwa⟩ : ∃ wa, wa = w.alloc (.cells #[.int .i64 i0, .int .i64 t0, .bool ss, .bool cc, .int .i64 (b : Int), .slice a1 n1 q1, .slice a2 n2 q2, .int .i64 pages, .bool cl, .bool gd, .string s0, .string s1] 94) := ⟨_, rfl⟩
  have UA : Hid (Upd noBlock w wa) := by rw [hwa]; exact (Upd.refl _ _).alloc _
  have bg : wa.heap[g]? = some (.cells #[.int .i64 i0, .int .i64 t0, .bool ss, .bool cc, .int .i64 (b : Int), .slice a1 n1 q1, .slice a2 n2 q2, .int .i64 pages, .bool cl, .bool gd, .string s0, .string s1] 94 (0, 0)) := by rw [hwa, hg]; exact heap_alloc_new w _
  have HB : Hid (∀ W, Hid (Upd noBlock wa W) → W.cell? ⟨g, 5, none⟩ = some (.slice a1 n1 q1) ∧ W.cell? ⟨g, 6, none⟩ = some (.slice a2 n2 q2) ∧ W.cell? ⟨g, 7, none⟩ = some (.int .i64 pages) ∧ Hid (Upd noBlock wa W)) := fun W hW => by
    have h9 := (hW.out.block g (lt_of_block bg) (fun h => h)).trans bg
    exact ⟨cell_of h9 5, cell_of h9 6, cell_of h9 7, hW⟩
  have HR : Hid (∀ W, Hid (Upd noBlock wa W) → Calls Tryz.prog 47 #[.agg #[.slice a1 n1 q1, .slice a2 n2 q2]] W fun e w' => e = .returned (.int .i64 ((n1 : Int) - 1)) ∧ Hid (Upd noBlock wa w')) := fun W hW => (roomOf_any a1 n1 q1 (.slice a2 n2 q2) W hn).mono fun e w' h => ⟨h.1, hW.out.trans h.2⟩
  have UD : Hid (Upd noBlock wa wa.drew) := (Upd.refl _ _).drew
  have U0 : Hid (Upd noBlock wa wa) := Upd.refl _ _
  go_enter Tryz.func53, Tryz.ntmps53
  go_upto_region 1 with fail
  rw [← hwa, ← hg]
  clear hwa hg bg
  go_region_held3 (fun W => W.cell? ⟨g, 5, none⟩ = some (.slice a1 n1 q1) ∧ W.cell? ⟨g, 6, none⟩ = some (.slice a2 n2 q2) ∧ W.cell? ⟨g, 7, none⟩ = some (.int .i64 pages) ∧ Hid (Upd noBlock wa W))
    (first | with_reducible exact HB.out _ U0 | with_reducible exact HB.out _ UD | with_reducible exact HB.out _ K5)
    (first
    | (go_at_call 47; (with_reducible refine (HR.out _ UD).mono ?_); rintro r w5 ⟨rfl, K5⟩))
  go_wp2
  go_ret
  exact ⟨rfl, UA.out.trans K5.out⟩
section
variable {A : Vp} {M : Ch} {V : Vo} {w : World}
set_option maxRecDepth 100000 in
set_option maxHeartbeats 3200000 in
theorem settle_ok (j0 : Int) (y1 y2 y3 y4 y5 y6 y7 y8 y9 ya yb : Value) (i0 t0 : Int) (ss cc : Bool) (b : Nat) (a1 : Option Addr) (n1 q1 : Nat) (a2 : Option Addr) (n2 q2 : Nat) (pages : Int) (cl gd : Bool) (s0 s1 : ByteArray) (h : VolIn w A M V) (hj : Wf j0) (hn : V.n < maxLen) :
    Calls Tryz.prog 55 #[.pointer (some ⟨A.v, 0, none⟩), .agg #[.int .i64 i0, .int .i64 t0, .bool ss, .bool cc, .int .i64 (b : Int), .slice a1 n1 q1, .slice a2 n2 q2, .int .i64 pages, .bool cl, .bool gd, .string s0, .string s1], .agg #[.int .i64 j0, y1, y2, y3, y4, y5, y6, y7, y8, y9, ya, yb], .int .i64 0] w fun e w' => e = .returned (.int .i64 0) ∧ VolIn w' A M { V with f := putI V.f j0 (.agg #[.int .i64 j0, y1, y2, y3, y4, y5, y6, y7, y8, y9, ya, yb]), n := V.n + 1 } ∧ Upd (VOwn A M.nb) w w' := by
  obtain ⟨g, hg⟩ : ∃ g, g = w.heap.size := ⟨_, rfl⟩
  obtain ⟨r0, hr0⟩ : ∃ r0, r0 = w.heap.size + 1 := ⟨_, rfl⟩
  obtain ⟨wa, hwa⟩ : ∃ wa, wa = (w.alloc (.cells #[.int .i64 i0, .int .i64 t0, .bool ss, .bool cc, .int .i64 (b : Int), .slice a1 n1 q1, .slice a2 n2 q2, .int .i64 pages, .bool cl, .bool gd, .string s0, .string s1] 94)).alloc (.cells #[.int .i64 j0, y1, y2, y3, y4, y5, y6, y7, y8, y9, ya, yb] 94) := ⟨_, rfl⟩
  have UA : Hid (Upd noBlock w wa) := by rw [hwa]; exact ((Upd.refl _ _).alloc _).alloc _
  have br : wa.heap[r0]? = some (.cells #[.int .i64 j0, y1, y2, y3, y4, y5, y6, y7, y8, y9, ya, yb] 94 (0, 0)) := by
    have h9 := heap_alloc_new (w.alloc (.cells #[.int .i64 i0, .int .i64 t0, .bool ss, .bool cc, .int .i64 (b : Int), .slice a1 n1 q1, .slice a2 n2 q2, .int .i64 pages, .bool cl, .bool gd, .string s0, .string s1] 94)) (.cells #[.int .i64 j0, y1, y2, y3, y4, y5, y6, y7, y8, y9, ya, yb] 94)
    rw [World.size_alloc] at h9
    rw [hwa, hr0]; exact h9
  have HA := h.grow (UA.out.trans (Upd.refl noBlock wa).drew)
  obtain ⟨c0, c1, c2, c3, c4, c5, c6⟩ := HA.cells
  have c3' : wa.cell? ⟨A.v, 3, none⟩ = some (.map (some A.mb)) := c3
  have x0 : wa.cell? ⟨r0, 0, none⟩ = some (.int .i64 j0) := cell_of br 0
  obtain ⟨d0, d1, d2, d3, d4, d5, d6, d7, d8, d9, da, db⟩ := cells12 (W := wa.drew) br
  obtain ⟨w5, hrun, hm5, hg5⟩ := HA.map.put Tryz.underlying78 hn j0 hj (.agg #[.int .i64 j0, y1, y2, y3, y4, y5, y6, y7, y8, y9, ya, yb])
  have V5 : Hid (VolIn w5 A M { V with f := putI V.f j0 (.agg #[.int .i64 j0, y1, y2, y3, y4, y5, y6, y7, y8, y9, ya, yb]), n := V.n + 1 }) := HA.mapped hg5 _ _ hm5
  have U5 : Hid (Upd (VOwn A M.nb) w w5) := (UA.out.mono (fun _ _ e => e.elim)).trans ⟨hg5.os, hg5.tape, hg5.output, hg5.size, fun i hi hn => hg5.block i hi (fun e => hn (.inr (.inl (Option.some.inj e))))⟩
  clear hm5 hg5 HA h br
  go_enter Tryz.func55, Tryz.ntmps55
  go_upto_region 3 with fail
  rw [← hwa, ← hr0]
  clear hwa hr0 hg
  go_region_with fail
  all_goals
    go_wp2
    go_ret
    exact ⟨rfl, V5.out, U5.out⟩
end
end Go.Proofs.YtoledgpcgjdjjaaGreatDoor

/- place: a new logical block with no page, where there is none. -/
namespace Go.Proofs.YtoledgpcgjdjjaaGreatDoor
open F
open Go.RowKit Pm Cm
set_option linter.unusedVariables false
attribute [local irreducible] openL decUp empUp Lib.onesCount parT sealed beZ valN labelL

theorem Pr.OwnV.down {w : World} {B B' : Nat} {v : Value} {xs : List Int} (h : Pr.OwnV w B v xs) (hB : B' ≤ B) : Pr.OwnV w B' v xs := by
  obtain ⟨hl, h1⟩ := h
  refine ⟨hl, ?_⟩
  rcases h1 with ⟨h1, h2⟩ | ⟨x, cap, cur, rfl, hb, hx, r⟩
  · exact .inl ⟨h1, h2⟩
  · exact .inr ⟨x, cap, cur, rfl, Nat.le_trans hB hb, hx, r⟩
section
variable {A : Vp} {M : Ch} {V : Vo} {w : World}
set_option maxRecDepth 100000 in
set_option maxHeartbeats 6400000 in
theorem place_new (b n : Nat) (id : Int) (s : Bool) (h : VolIn w A M V) (hf : ∀ x, Wf x → V.f x = none) (hT : ∀ W, Upd (VOwn A M.nb) w W → Tab W) (hF : M.Fit n) (hn : n < 4000000000000000000) (hb : b < M.nb) (hr : 18 ≤ A.room) (ht : V.turn < 1099511627776)
    (hp : Pr.leastL (freeB M V M.nb) (Pr.chosenL Pr.Bk.spare (freeB M V M.nb) M.nb) = (b : Int)) (he : (beginP A V M b id s false).e = 0) (hd : (Pr.dl s (M.np - 3)).length ≤ 64) (hd1 : (Pr.dl s (M.np - 3)).length ≠ 1) :
    Calls Tryz.prog 41 #[.pointer (some ⟨A.v, 0, none⟩), .agg #[.int .i64 id, .int .i64 0, .bool s, .bool false], .slice none 0 0] w fun r w' => VGo w A M (beginP A V M b id s false) w' ∧
      ∃ D P, r = .returned (.tuple #[.agg (sdC (begunD id (V.turn + 1) s false b D P)), .int .i64 0]) ∧ Pr.OwnV w' w.heap.size D (Pr.dl s (M.np - 3)) ∧ Pr.OwnV w' w.heap.size P (Pr.parL s M.np) := by
  have hnb := h.nb1
  obtain ⟨wa, hwa⟩ : ∃ wa, wa = (w.alloc (.cells #[.int .i64 id, .int .i64 0, .bool s, .bool false] 89)).alloc (.cells #[.int .i64 0, .int .i64 0, .bool false, .bool false, .int .i64 0, .slice none 0 0, .slice none 0 0, .int .i64 0, .bool false, .bool false, .string ⟨#[]⟩, .string ⟨#[]⟩] 94) := ⟨_, rfl⟩
  obtain ⟨g, hg⟩ : ∃ g, g = w.heap.size := ⟨_, rfl⟩
  obtain ⟨r0, hr0⟩ : ∃ r0, r0 = w.heap.size + 1 := ⟨_, rfl⟩
  have UA : Hid (Upd noBlock w wa) := by rw [hwa]; exact ((Upd.refl _ _).alloc _).alloc _
  have bg : wa.heap[g]? = some (.cells #[.int .i64 id, .int .i64 0, .bool s, .bool false] 89 (0, 0)) := by rw [hwa, hg]; exact block_alloc (heap_alloc_new w _) _
  have br : wa.heap[r0]? = some (.cells #[.int .i64 0, .int .i64 0, .bool false, .bool false, .int .i64 0, .slice none 0 0, .slice none 0 0, .int .i64 0, .bool false, .bool false, .string ⟨#[]⟩, .string ⟨#[]⟩] 94 (0, 0)) := by
    have h9 := heap_alloc_new (w.alloc (.cells #[.int .i64 id, .int .i64 0, .bool s, .bool false] 89)) (.cells #[.int .i64 0, .int .i64 0, .bool false, .bool false, .int .i64 0, .slice none 0 0, .slice none 0 0, .int .i64 0, .bool false, .bool false, .string ⟨#[]⟩, .string ⟨#[]⟩] 94)
    rw [World.size_alloc] at h9
    rw [hwa, hr0]; exact h9
  have HRS : Hid (w.heap.size ≤ r0) := by show w.heap.size ≤ r0; omega
  obtain ⟨bl, hbl⟩ : ∃ bl, freeB M V M.nb = bl := ⟨_, rfl⟩
  have HBK : Hid (Calls Tryz.prog 27 #[.pointer (some ⟨A.v, 0, none⟩)] wa fun e w' => ∃ g, e = .returned (.slice (some ⟨g, 0, none⟩) M.nb M.nb) ∧ Hid (Pr.Blks w' w'.heap.size (some ⟨g, 0, none⟩) M.nb bl) ∧ Hid (Upd noBlock wa w')) := (blocks_empty (h.grow UA.out) hf).mono fun e w' ⟨g, h1, h2, h3, h4⟩ => ⟨g, h1, by rw [← hbl]; exact wbC_blks h3, h4⟩
  have HPK : Hid (∀ g W, Hid (Pr.Blks W W.heap.size (some ⟨g, 0, none⟩) M.nb bl) → Hid (Upd noBlock wa W) → Calls Tryz.prog 68 #[.slice (some ⟨g, 0, none⟩) M.nb M.nb] W fun e w' => e = .returned (.int .i64 (b : Int)) ∧ Hid (Upd noBlock wa w')) := fun g W hB hU => (Pr.pick_any (some ⟨g, 0, none⟩) M.nb M.nb W.heap.size bl W hB.out (Nat.le_refl _) (by omega)).mono fun e w' ⟨h1, h2⟩ => ⟨by rw [h1, ← hbl, hp], hU.out.trans h2⟩
  obtain ⟨tn, htn⟩ : ∃ tn : Int, ((V.turn + 1 : Nat) : Int) = tn := ⟨_, rfl⟩
  obtain ⟨lb, hlb⟩ : ∃ lb : ByteArray, (⟨(labelL id tn s false).toArray⟩ : ByteArray) = lb := ⟨_, rfl⟩
  obtain ⟨O, hO⟩ : ∃ O, beginP A V M b id s false = O := ⟨_, rfl⟩
  obtain ⟨n1, hn1⟩ : ∃ n1, (Pr.dl s (M.np - 3)).length = n1 := ⟨_, rfl⟩
  obtain ⟨n2, hn2⟩ : ∃ n2, (Pr.parL s M.np).length = n2 := ⟨_, rfl⟩
  have HBE : Hid (∀ W, Hid (Upd noBlock wa W) → Calls Tryz.prog 69 #[.pointer (some ⟨A.v, 0, none⟩), .int .i64 (b : Int), .agg #[.int .i64 id, .int .i64 0, .bool s, .bool false]] W fun r w' => ∃ a1 q1 a2 q2, r = .returned (.tuple #[.agg #[.int .i64 id, .int .i64 tn, .bool s, .bool false, .int .i64 (b : Int), .slice a1 n1 q1, .slice a2 n2 q2, .int .i64 0, .bool false, .bool false, .string lb, .string ⟨#[]⟩], .int .i64 0]) ∧ Hid (Pr.OwnV w' w.heap.size (.slice a1 n1 q1) (Pr.dl s (M.np - 3))) ∧ Hid (Pr.OwnV w' w.heap.size (.slice a2 n2 q2) (Pr.parL s M.np)) ∧ Hid (VGo w A M O w') ∧ Hid (w'.heap[g]? = some (.cells #[.int .i64 id, .int .i64 0, .bool s, .bool false] 89 (0, 0))) ∧ Hid (w'.heap[r0]? = some (.cells #[.int .i64 0, .int .i64 0, .bool false, .bool false, .int .i64 0, .slice none 0 0, .slice none 0 0, .int .i64 0, .bool false, .bool false, .string ⟨#[]⟩, .string ⟨#[]⟩] 94 (0, 0)))) := fun W hU => by
    have HW := h.grow (UA.out.trans hU.out)
    have UW : Upd (VOwn A M.nb) w W := (UA.out.trans hU.out).mono (fun _ _ e => e.elim)
    refine (begin_any b n id 0 s false HW (fun W2 h2 => hT W2 (UW.trans h2)) hF hn hb hr (by omega)).mono fun e w' ⟨hv, hx⟩ => ?_
    rw [if_pos he] at hx
    obtain ⟨D, P, hx1, hx2, hx3⟩ := hx
    obtain ⟨a1, q1, rfl, -, -, -⟩ := hx2.sl
    obtain ⟨a2, q2, rfl, -, -, -⟩ := hx3.sl
    rw [hn1] at hx1 hx2
    rw [hn2] at hx1 hx3
    refine ⟨a1, q1, a2, q2, ?_, ?_, ?_, ?_, ?_, ?_⟩
    · rw [hx1]; unfold sdC begunD; simp only [htn, hlb]; rfl
    · exact Pr.OwnV.down hx2 (UA.out.trans hU.out).size
    · exact Pr.OwnV.down hx3 (UA.out.trans hU.out).size
    · rw [hO] at hv; exact ⟨hv.v, UW.trans hv.u⟩
    · exact HW.keepT 89 (by decide) hv.u g _ ((hU.out.block g (lt_of_block bg) (fun h => h)).trans bg)
    · exact HW.keepT 94 (by decide) hv.u r0 _ ((hU.out.block r0 (lt_of_block br) (fun h => h)).trans br)
  have HCT : Hid (∀ W, Hid (Upd noBlock wa W) → W.cell? ⟨A.v, 5, none⟩ = some (.int .i64 (V.turn : Int)) ∧ Hid (W.heap[g]? = some (.cells #[.int .i64 id, .int .i64 0, .bool s, .bool false] 89 (0, 0)))) := fun W hU => ⟨(h.grow (UA.out.trans hU.out)).cells.2.2.2.2.2.1, (hU.out.block g (lt_of_block bg) (fun h => h)).trans bg⟩
  have HFU : Hid (∀ a1 q1 a2 q2 W, Calls Tryz.prog 53 #[.agg #[.int .i64 id, .int .i64 tn, .bool s, .bool false, .int .i64 (b : Int), .slice a1 n1 q1, .slice a2 n2 q2, .int .i64 0, .bool false, .bool false, .string lb, .string ⟨#[]⟩]] W fun e w' => e = .returned (.bool false) ∧ Hid (Upd noBlock W w')) := fun a1 q1 a2 q2 W => (full_any id tn s false b a1 n1 q1 a2 n2 q2 0 false false lb ⟨#[]⟩ W (by rw [← hn1]; exact hd)).mono fun e w' ⟨h1, h2⟩ => ⟨by rw [h1, decide_eq_false (by rw [← hn1]; omega)], h2⟩
  have hfin : ∀ a1 q1 a2 q2, Ending.returned (.tuple #[.agg #[.int .i64 id, .int .i64 tn, .bool s, .bool false, .int .i64 (b : Int), .slice a1 n1 q1, .slice a2 n2 q2, .int .i64 0, .bool false, .bool false, .string lb, .string ⟨#[]⟩], .int .i64 0]) = Ending.returned (.tuple #[.agg (sdC (begunD id (V.turn + 1) s false b (.slice a1 n1 q1) (.slice a2 n2 q2))), .int .i64 0]) := fun a1 q1 a2 q2 => by
    unfold sdC begunD; simp only [htn, hlb]; rfl
  have i0 : ((b : Int) < 0) = False := by simp
  have dt : decide ((1099511627776 : Int) ≤ (V.turn : Int)) = false := decide_eq_false (by omega)
  have db : decide ((b : Int) < 0) = false := decide_eq_false (by omega)
  rw [hO]
  clear h hT hF hn hp he hbl hO bg br hr hnb
  go_enter Tryz.func41, Tryz.ntmps41
  go_upto_region 1 with fail
  rw [← hwa, ← hr0, ← hg]
  clear hwa hr0 hg
  go_step3
  go_wp2
  go_step3
  go_wp2_with (first
    | (go_at_call 27; (with_reducible refine HBK.out.mono ?_); rintro r w1 ⟨gb, rfl, K1, U1⟩)
    | (go_at_call 68; (with_reducible refine (HPK.out _ _ K1 U1).mono ?_); rintro r w2 ⟨rfl, U2⟩; obtain ⟨ct, L2⟩ := HCT.out _ U2; have lc0 := cell_of L2.out 0; have lc1 := cell_of L2.out 1; have lc2 := cell_of L2.out 2; have lc3 := cell_of L2.out 3)
    | (go_at_call 69; (with_reducible refine (HBE.out _ U2).mono ?_); rintro r w3 ⟨a1, q1, a2, q2, rfl, OD, OP, G3, L3, R3⟩))
  obtain ⟨g9, hg9⟩ : ∃ g9, g9 = w3.heap.size := ⟨_, rfl⟩
  obtain ⟨w4, hw4⟩ : ∃ w4, w4 = w3.alloc (.cells #[.int .i64 id, .int .i64 tn, .bool s, .bool false, .int .i64 (b : Int), .slice a1 n1 q1, .slice a2 n2 q2, .int .i64 0, .bool false, .bool false, .string lb, .string ⟨#[]⟩] 94) := ⟨_, rfl⟩
  have B4 : Hid (w4.heap[g9]? = some (.cells #[.int .i64 id, .int .i64 tn, .bool s, .bool false, .int .i64 (b : Int), .slice a1 n1 q1, .slice a2 n2 q2, .int .i64 0, .bool false, .bool false, .string lb, .string ⟨#[]⟩] 94 (0, 0))) := by rw [hw4, hg9]; exact heap_alloc_new w3 _
  have U4 : Hid (Upd noBlock w3 w4) := by rw [hw4]; exact (Upd.refl _ _).alloc _
  rw [← hw4, ← hg9]
  clear hw4 hg9 ct lc0 lc1 lc2 lc3
  go_loopw [10, 12, 35] (fun s10 s12 s35 wr => ∃ v12 : Value, s10 = .int .i64 0 ∧ s12 = v12 ∧ s35 = .int .i64 0 ∧ Hid (wr = w4)) (fun _ _ _ _ => 0)
  case atStart => exact ⟨_, rfl, rfl, rfl, rfl⟩
  case round =>
    obtain ⟨v12, rfl, rfl, rfl, HW⟩ := hrel
    have hww := HW.out
    subst hww
    obtain ⟨y0, y1, y2, y3, y4, y5, y6, y7, y8, y9, ya, yb⟩ := cells12 B4.out
    have gl : (wr.heap[g]? = some (.cells #[.int .i64 id, .int .i64 0, .bool s, .bool false] 89 (0, 0))) := (U4.out.block g (lt_of_block L3.out) (fun h => h)).trans L3.out
    have l3 : wr.cell? ⟨g, 3, none⟩ = some (.bool false) := cell_of gl 3
    clear gl
    go_upto_region 13 with (go_at_call 53; (with_reducible refine (HFU.out _ _ _ _ _).mono ?_); rintro r w5 ⟨rfl, U5⟩)
    have R5 : Hid (w5.heap[r0]? = some (.cells #[.int .i64 0, .int .i64 0, .bool false, .bool false, .int .i64 0, .slice none 0 0, .slice none 0 0, .int .i64 0, .bool false, .bool false, .string ⟨#[]⟩, .string ⟨#[]⟩] 94 (0, 0))) := ((U4.out.trans U5.out).block r0 (lt_of_block R3.out) (fun h => h)).trans R3.out
    have B5 : Hid (w5.heap[g9]? = some (.cells #[.int .i64 id, .int .i64 tn, .bool s, .bool false, .int .i64 (b : Int), .slice a1 n1 q1, .slice a2 n2 q2, .int .i64 0, .bool false, .bool false, .string lb, .string ⟨#[]⟩] 94 (0, 0))) := (U5.out.block g9 (lt_of_block B4.out) (fun h => h)).trans B4.out
    clear y0 y1 y2 y3 y4 y5 y6 y7 y8 y9 ya yb l3
    obtain ⟨y0, y1, y2, y3, y4, y5, y6, y7, y8, y9, ya, yb⟩ := cells12 B5.out
    obtain ⟨z0, z1, z2, z3, z4, z5, z6, z7, z8, z9, za, zb⟩ := cells12 R5.out
    obtain ⟨f0, f1, f2, f3, f4, f5, f6, f7, f8, f9, fa, fb⟩ := frees12 R5.out
    obtain ⟨we, hwe⟩ : ∃ we, we = set12C w5 r0 (.int .i64 id) (.int .i64 tn) (.bool s) (.bool false) (.int .i64 (b : Int)) (.slice a1 n1 q1) (.slice a2 n2 q2) (.int .i64 0) (.bool false) (.bool false) (.string lb) (.string ⟨#[]⟩) := ⟨_, rfl⟩
    have u3 : Upd (oneBlock r0) w5 we := by rw [hwe]; exact set12C_upd _ _ _ _ _ _ _ _ _ _ _ _ _ _
    have RE : Hid (we.heap[r0]? = some (.cells #[.int .i64 id, .int .i64 tn, .bool s, .bool false, .int .i64 (b : Int), .slice a1 n1 q1, .slice a2 n2 q2, .int .i64 0, .bool false, .bool false, .string lb, .string ⟨#[]⟩] 94 (0, 0))) := by rw [hwe]; exact set12C_at R5.out
    have U35 := U4.out.trans U5.out
    have VE : Hid (VolIn we A O.M O.V) := (G3.out.v.grow U35).alien R5.out (by decide) (by decide) u3
    have UE : Hid (Upd (VOwn A M.nb) w we) := (G3.out.u.trans (U35.mono (fun _ _ e => e.elim))).past u3 HRS.out
    have ODE : Hid (Pr.OwnV we w.heap.size (.slice a1 n1 q1) (Pr.dl s (M.np - 3))) := Pr.OwnV.alien (OD.out.upd U35 (fun _ _ h => h)) R5.out (by decide) u3
    have OPE : Hid (Pr.OwnV we w.heap.size (.slice a2 n2 q2) (Pr.parL s M.np)) := Pr.OwnV.alien (OP.out.upd U35 (fun _ _ h => h)) R5.out (by decide) u3
    unfold set12C at hwe
    clear u3 U35
    go_wp2_with fail
    rw [← hwe]
    try rw [Exit.noGoto_ret]
    exact bodyPost_ret_by (ret_cell2F rfl _ _ r0 _ _ _ _ _ rfl RE.out Tryz.underlying94 rfl sdInfo rfl) rfl ⟨⟨VE.out, UE.out⟩, .slice a1 n1 q1, .slice a2 n2 q2, hfin _ _ _ _, ODE.out, OPE.out⟩
end
end Go.Proofs.YtoledgpcgjdjjaaGreatDoor

/- Map: a new logical block, where there is none. -/
namespace Go.Proofs.YtoledgpcgjdjjaaGreatDoor
open F
open Go.RowKit Pm Cm
set_option linter.unusedVariables false
attribute [local irreducible] openL decUp empUp Lib.onesCount parT sealed beZ valN labelL

theorem wf_ok {x : Int} (h : okN x = true) : Wf x := by
  obtain ⟨h1, h2⟩ := (okN_iff x).1 h
  obtain ⟨k, rfl⟩ := Int.eq_ofNat_of_zero_le h1
  exact wf_nat (by omega)
theorem beginP_keeps (A : Vp) (V : Vo) (M : Ch) (b : Nat) (id : Int) (s c : Bool) : Keeps M (beginP A V M b id s c).M 3 := by
  unfold beginP
  split
  · exact firstP_keeps A V M b _
  · exact firstP_keeps A V M b _
section
variable {A : Vp} {M : Ch} {V : Vo} {w : World}
set_option maxRecDepth 100000 in
set_option maxHeartbeats 6400000 in
theorem map_new (b n : Nat) (id : Int) (s : Bool) (h : VolIn w A M V) (hf : ∀ x, Wf x → V.f x = none) (hT : ∀ W, Upd (VOwn A M.nb) w W → Tab W) (hF : M.Fit n) (hn : n < 4000000000000000000) (hb : b < M.nb) (hr : 18 ≤ A.room) (ht : V.turn < 1099511627776)
    (hp : Pr.leastL (freeB M V M.nb) (Pr.chosenL Pr.Bk.spare (freeB M V M.nb) M.nb) = (b : Int)) (he : (beginP A V M b id s false).e = 0) (hd : (Pr.dl s (M.np - 3)).length ≤ 64) (hd1 : (Pr.dl s (M.np - 3)).length ≠ 1) (hv : okN id = true) (hm : (beginP A V M b id s false).V.n < maxLen) :
    Calls Tryz.prog 23 #[.pointer (some ⟨A.v, 0, none⟩), .int .i64 id, .bool s] w fun r w' => r = .returned (.int .i64 0) ∧ ∃ D P, VGo w A M { beginP A V M b id s false with V := { (beginP A V M b id s false).V with f := putI (beginP A V M b id s false).V.f id (.agg (sdC (begunD id (V.turn + 1) s false b D P))), n := (beginP A V M b id s false).V.n + 1 } } w' ∧ Pr.OwnV w' w.heap.size D (Pr.dl s (M.np - 3)) ∧ Pr.OwnV w' w.heap.size P (Pr.parL s M.np) := by
  have hwf := wf_ok hv
  have HVA := Lib.hid (fun W => Valid1A id W)
  rw [hv] at HVA
  obtain ⟨tn, htn⟩ : ∃ tn : Int, ((V.turn + 1 : Nat) : Int) = tn := ⟨_, rfl⟩
  obtain ⟨lb, hlb⟩ : ∃ lb : ByteArray, (⟨(labelL id tn s false).toArray⟩ : ByteArray) = lb := ⟨_, rfl⟩
  obtain ⟨O, hO⟩ : ∃ O, beginP A V M b id s false = O := ⟨_, rfl⟩
  obtain ⟨n1, hn1⟩ : ∃ n1, (Pr.dl s (M.np - 3)).length = n1 := ⟨_, rfl⟩
  obtain ⟨n2, hn2⟩ : ∃ n2, (Pr.parL s M.np).length = n2 := ⟨_, rfl⟩
  rw [hO] at hm
  have hON : Hid (O.M.nb = M.nb) := by rw [← hO]; exact (beginP_keeps A V M b id s false).nb
  have HPL : Hid (∀ W, Hid (Upd noBlock w W) → Calls Tryz.prog 41 #[.pointer (some ⟨A.v, 0, none⟩), .agg #[.int .i64 id, .int .i64 0, .bool s, .bool false], .slice none 0 0] W fun r w' => ∃ a1 q1 a2 q2, r = .returned (.tuple #[.agg #[.int .i64 id, .int .i64 tn, .bool s, .bool false, .int .i64 (b : Int), .slice a1 n1 q1, .slice a2 n2 q2, .int .i64 0, .bool false, .bool false, .string lb, .string ⟨#[]⟩], .int .i64 0]) ∧ Hid (Pr.OwnV w' w.heap.size (.slice a1 n1 q1) (Pr.dl s (M.np - 3))) ∧ Hid (Pr.OwnV w' w.heap.size (.slice a2 n2 q2) (Pr.parL s M.np)) ∧ Hid (VGo w A M O w')) := fun W hU => by
    have UW : Upd (VOwn A M.nb) w W := hU.out.mono (fun _ _ e => e.elim)
    refine (place_new b n id s (h.grow hU.out) hf (fun W2 h2 => hT W2 (UW.trans h2)) hF hn hb hr ht hp he hd hd1).mono fun e w' ⟨hv, D, P, hx1, hx2, hx3⟩ => ?_
    obtain ⟨a1, q1, rfl, -, -, -⟩ := hx2.sl
    obtain ⟨a2, q2, rfl, -, -, -⟩ := hx3.sl
    rw [hn1] at hx1 hx2
    rw [hn2] at hx1 hx3
    refine ⟨a1, q1, a2, q2, ?_, ?_, ?_, ?_⟩
    · rw [hx1]; unfold sdC begunD; simp only [htn, hlb]; rfl
    · exact Pr.OwnV.down hx2 hU.out.size
    · exact Pr.OwnV.down hx3 hU.out.size
    · rw [hO] at hv; exact ⟨hv.v, UW.trans hv.u⟩
  have HLK : Hid (∀ W, Hid (Upd noBlock w W) → W.cell? ⟨A.v, 3, none⟩ = some (.map (some A.mb)) ∧ (Instr.lookup 78 (.map (some A.mb)) (.int .i64 id) true).run Tryz.prog W = .ok (.tuple #[.agg #[.int .i64 0, .int .i64 0, .bool false, .bool false, .int .i64 0, .slice none 0 0, .slice none 0 0, .int .i64 0, .bool false, .bool false, .string ⟨#[]⟩, .string ⟨#[]⟩], .bool false]) W) := fun W hU => by
    have hV := h.grow hU.out
    have hL := hV.map.look Tryz.underlying78 (zeroSd W) id hwf
    rw [hf id hwf] at hL
    exact ⟨hV.cells.2.2.2.1, hL⟩
  have HFin : Hid (∀ a1 q1 a2 q2 w3 w4, Hid (VGo w A M O w3) → Hid (Pr.OwnV w3 w.heap.size (.slice a1 n1 q1) (Pr.dl s (M.np - 3))) → Hid (Pr.OwnV w3 w.heap.size (.slice a2 n2 q2) (Pr.parL s M.np)) → Hid (Upd noBlock w3 w4) → ∃ w5, (Instr.mapUpdate 78 (.map (some A.mb)) (.int .i64 id) (.agg #[.int .i64 id, .int .i64 tn, .bool s, .bool false, .int .i64 (b : Int), .slice a1 n1 q1, .slice a2 n2 q2, .int .i64 0, .bool false, .bool false, .string lb, .string ⟨#[]⟩])).run Tryz.prog w4 = .ok () w5 ∧ Hid (∃ D P, VGo w A M { O with V := { O.V with f := putI O.V.f id (.agg (sdC (begunD id (V.turn + 1) s false b D P))), n := O.V.n + 1 } } w5 ∧ Pr.OwnV w5 w.heap.size D (Pr.dl s (M.np - 3)) ∧ Pr.OwnV w5 w.heap.size P (Pr.parL s M.np))) := fun a1 q1 a2 q2 w3 w4 hG o1 o2 hU => by
    have V4 := hG.out.v.grow hU.out
    obtain ⟨w5, hrun, hm5, hg5⟩ := V4.map.put Tryz.underlying78 hm id hwf (.agg #[.int .i64 id, .int .i64 tn, .bool s, .bool false, .int .i64 (b : Int), .slice a1 n1 q1, .slice a2 n2 q2, .int .i64 0, .bool false, .bool false, .string lb, .string ⟨#[]⟩])
    have hC : sdC (begunD id (V.turn + 1) s false b (.slice a1 n1 q1) (.slice a2 n2 q2)) = #[.int .i64 id, .int .i64 tn, .bool s, .bool false, .int .i64 (b : Int), .slice a1 n1 q1, .slice a2 n2 q2, .int .i64 0, .bool false, .bool false, .string lb, .string ⟨#[]⟩] := by unfold sdC begunD; simp only [htn, hlb]; rfl
    have u5 : Upd (VOwn A O.M.nb) w4 w5 := ⟨hg5.os, hg5.tape, hg5.output, hg5.size, fun i hi hn => hg5.block i hi (fun e => hn (.inr (.inl (Option.some.inj e))))⟩
    refine ⟨w5, hrun, .slice a1 n1 q1, .slice a2 n2 q2, ⟨?_, ?_⟩, ?_, ?_⟩
    · rw [hC]; exact V4.mapped hg5 _ _ hm5
    · exact (hG.out.u.trans (hU.out.mono (fun _ _ e => e.elim))).trans (VOwn.same hON.out u5)
    · exact V4.ownV u5 (o1.out.upd hU.out (fun _ _ h => h))
    · exact V4.ownV u5 (o2.out.upd hU.out (fun _ _ h => h))
  have HC3 : Hid (∀ w3 w4, Hid (VGo w A M O w3) → Hid (Upd noBlock w3 w4) → w4.cell? ⟨A.v, 3, none⟩ = some (.map (some A.mb))) := fun w3 w4 hG hU => (hG.out.v.grow hU.out).cells.2.2.2.1
  rw [hO]
  clear h hT hF hn hp he hO hr hf ht hd hd1 hv hwf hm hON
  go_enter Tryz.func23, Tryz.ntmps23
  go_upto_region 3 with (go_at_call 39; (with_reducible refine (HVA.out _).mono ?_); rintro r w1 ⟨rfl, hu⟩; have U1 := Lib.hid hu; clear hu)
  obtain ⟨c3, hlk⟩ := HLK.out _ U1
  have UZ : Hid (∀ Z, Hid (Upd noBlock w (w1.alloc Z))) := fun Z => U1.out.alloc Z
  go_upto_region 8 with (go_at_call 41; (with_reducible refine (HPL.out _ (UZ.out _)).mono ?_); rintro r w3 ⟨a1, q1, a2, q2, rfl, OD, OP, G3⟩)
  obtain ⟨g9, hg9⟩ : ∃ g9, g9 = w3.heap.size := ⟨_, rfl⟩
  obtain ⟨w4, hw4⟩ : ∃ w4, w4 = w3.alloc (.cells #[.int .i64 id, .int .i64 tn, .bool s, .bool false, .int .i64 (b : Int), .slice a1 n1 q1, .slice a2 n2 q2, .int .i64 0, .bool false, .bool false, .string lb, .string ⟨#[]⟩] 94) := ⟨_, rfl⟩
  have b4 : w4.heap[g9]? = some (.cells #[.int .i64 id, .int .i64 tn, .bool s, .bool false, .int .i64 (b : Int), .slice a1 n1 q1, .slice a2 n2 q2, .int .i64 0, .bool false, .bool false, .string lb, .string ⟨#[]⟩] 94 (0, 0)) := by rw [hw4, hg9]; exact heap_alloc_new w3 _
  have U4 : Hid (Upd noBlock w3 w4) := by rw [hw4]; exact (Upd.refl _ _).alloc _
  have U4d : Hid (Upd noBlock w3 w4.drew) := U4.out.drew
  obtain ⟨w5, hrun, HE⟩ := HFin.out a1 q1 a2 q2 w3 _ G3 OD OP U4d
  have d3 := HC3.out _ _ G3 U4d
  have d3' := HC3.out _ _ G3 U4
  obtain ⟨e0, e1, e2, e3, e4, e5, e6, e7, e8, e9, ea, eb⟩ := cells12 (W := w4.drew) b4
  rw [← hw4, ← hg9]
  clear hw4 hg9 b4 c3 hlk HFin HC3 HLK HPL HVA
  go_region_with fail
  all_goals
    go_wp2
    go_ret
    exact ⟨rfl, HE.out⟩
end
end Go.Proofs.YtoledgpcgjdjjaaGreatDoor

/- Append: one page more, and room left. -/
namespace Go.Proofs.YtoledgpcgjdjjaaGreatDoor
open F
open Go.RowKit Pm Cm
set_option linter.unusedVariables false
attribute [local irreducible] openL decUp empUp Lib.onesCount parT sealed beZ valN labelL

section
variable {A : Vp} {M : Ch} {V : Vo} {w : World}
set_option maxRecDepth 100000 in
set_option maxHeartbeats 6400000 in
theorem append_more (n p : Nat) (id turn : Int) (ss cc : Bool) (b : Nat) (a1 : Option Addr) (n1 q1 : Nat) (a2 : Option Addr) (n2 q2 : Nat) (pages : Nat) (gd : Bool) (s0 s1 s : ByteArray) (xs : List Int) (B : Nat)
    (h : VolIn w A M V) (hT : ∀ W, Upd (VOwn A M.nb) w W → Tab W) (hF : M.Fit n) (hn : n < 4000000000000000000) (hb : b < M.nb) (hs : s.size ≤ A.room) (hs0 : s0.size ≤ 5000) (hs1 : s1.size ≤ 5000)
    (hD : Pr.OwnV w B (.slice a1 n1 q1) xs) (hpg : pages + 1 < xs.length) (hxl : xs.length ≤ 64) (hp : xs.getD (pages + 1) 0 = (p : Int)) (hpn : p < M.np)
    (hid : Wf id) (hf : V.f id = some (.agg #[.int .i64 id, .int .i64 turn, .bool ss, .bool cc, .int .i64 (b : Int), .slice a1 n1 q1, .slice a2 n2 q2, .int .i64 (pages : Int), .bool false, .bool gd, .string s0, .string s1])) (he : (wrP A V M b p s.data.toList).e = 0) (hnf : pages + 2 ≠ xs.length) (hm : (wrP A V M b p s.data.toList).V.n < maxLen) :
    Calls Tryz.prog 24 #[.pointer (some ⟨A.v, 0, none⟩), .int .i64 id, .string s] w fun r w' => r = .returned (.int .i64 0) ∧ VGo w A M ⟨0, { (wrP A V M b p s.data.toList).V with f := putI (wrP A V M b p s.data.toList).V.f id (.agg #[.int .i64 id, .int .i64 turn, .bool ss, .bool cc, .int .i64 (b : Int), .slice a1 n1 q1, .slice a2 n2 q2, .int .i64 ((pages : Int) + 1), .bool false, .bool gd, .string (if p % 4 < 2 then xorB A.room [s0, s] else s0), .string (if p % 4 < 2 then s1 else xorB A.room [s1, s])]), n := (wrP A V M b p s.data.toList).V.n + 1 }, (wrP A V M b p s.data.toList).M⟩ w' := by
  have hn1 : n1 = xs.length := by
    obtain ⟨ga, csa, ca, hva, hba, hca⟩ := own_at0 hD (by omega)
    injection hva
  obtain ⟨X0, hX0⟩ : ∃ X, (if p % 4 < 2 then xorB A.room [s0, s] else s0) = X := ⟨_, rfl⟩
  obtain ⟨X1, hX1⟩ : ∃ X, (if p % 4 < 2 then s1 else xorB A.room [s1, s]) = X := ⟨_, rfl⟩
  obtain ⟨O, hO⟩ : ∃ O, wrP A V M b p s.data.toList = O := ⟨_, rfl⟩
  have hON : O.M.nb = M.nb := by rw [← hO]; exact (wrP_keeps A V M b p _).nb
  have HOP : Hid (Calls Tryz.prog 51 #[.pointer (some ⟨A.v, 0, none⟩), .int .i64 id] w fun e w' => e = .returned (.tuple #[.agg #[.int .i64 id, .int .i64 turn, .bool ss, .bool cc, .int .i64 (b : Int), .slice a1 n1 q1, .slice a2 n2 q2, .int .i64 (pages : Int), .bool false, .bool gd, .string s0, .string s1], .int .i64 0]) ∧ Hid (Upd noBlock w w')) := openOne_open id id turn ss cc b a1 n1 q1 a2 n2 q2 pages gd s0 s1 h hid hf
  have HEX : Hid (∀ W, Hid (Upd noBlock w W) → Calls Tryz.prog 52 #[.pointer (some ⟨A.v, 0, none⟩), .agg #[.int .i64 id, .int .i64 turn, .bool ss, .bool cc, .int .i64 (b : Int), .slice a1 n1 q1, .slice a2 n2 q2, .int .i64 (pages : Int), .bool false, .bool gd, .string s0, .string s1], .string s] W fun r w' => r = .returned (.tuple #[.agg #[.int .i64 id, .int .i64 turn, .bool ss, .bool cc, .int .i64 (b : Int), .slice a1 n1 q1, .slice a2 n2 q2, .int .i64 ((pages : Int) + 1), .bool false, .bool gd, .string X0, .string X1], .int .i64 0]) ∧ Hid (VGo w A M O w') ∧ Hid (∀ (g : Nat) (x : Array Value), W.heap[g]? = some (.cells x 94 (0, 0)) → w'.heap[g]? = some (.cells x 94 (0, 0)))) := fun W hU => by
    have UW : Upd (VOwn A M.nb) w W := hU.out.mono (fun _ _ e => e.elim)
    have HW := h.grow hU.out
    refine (extend_any n p id turn ss cc b a1 n1 q1 a2 n2 q2 pages false gd s0 s1 s xs B HW (fun W2 h2 => hT W2 (UW.trans h2)) hF hn hb hs hs0 hs1 (hD.upd hU.out (fun _ _ h => h)) hpg hxl hp hpn).mono fun e w' ⟨hv, hx⟩ => ?_
    rw [if_pos he, hX0, hX1] at hx
    rw [hO] at hv
    exact ⟨hx, ⟨hv.v, UW.trans hv.u⟩, fun g x hg => HW.keepT 94 (by decide) hv.u g _ hg⟩
  have HFU : Hid (∀ W, Calls Tryz.prog 53 #[.agg #[.int .i64 id, .int .i64 turn, .bool ss, .bool cc, .int .i64 (b : Int), .slice a1 n1 q1, .slice a2 n2 q2, .int .i64 ((pages : Int) + 1), .bool false, .bool gd, .string X0, .string X1]] W fun e w' => e = .returned (.bool false) ∧ Hid (Upd noBlock W w')) := fun W => (full_any id turn ss cc b a1 n1 q1 a2 n2 q2 ((pages : Int) + 1) false gd X0 X1 W (by omega)).mono fun e w' ⟨h1, h2⟩ => ⟨by rw [h1, decide_eq_false (by omega)], h2⟩
  have HSE : Hid (∀ W W', Hid (VGo w A M O W) → Hid (Upd noBlock W W') → Calls Tryz.prog 55 #[.pointer (some ⟨A.v, 0, none⟩), .agg #[.int .i64 id, .int .i64 turn, .bool ss, .bool cc, .int .i64 (b : Int), .slice a1 n1 q1, .slice a2 n2 q2, .int .i64 (pages : Int), .bool false, .bool gd, .string s0, .string s1], .agg #[.int .i64 id, .int .i64 turn, .bool ss, .bool cc, .int .i64 (b : Int), .slice a1 n1 q1, .slice a2 n2 q2, .int .i64 ((pages : Int) + 1), .bool false, .bool gd, .string X0, .string X1], .int .i64 0] W' fun r w' => r = .returned (.int .i64 0) ∧ Hid (VGo w A M ⟨0, { O.V with f := putI O.V.f id (.agg #[.int .i64 id, .int .i64 turn, .bool ss, .bool cc, .int .i64 (b : Int), .slice a1 n1 q1, .slice a2 n2 q2, .int .i64 ((pages : Int) + 1), .bool false, .bool gd, .string X0, .string X1]), n := O.V.n + 1 }, O.M⟩ w')) := fun W W' hG hU =>
    (settle_ok id (.int .i64 turn) (.bool ss) (.bool cc) (.int .i64 (b : Int)) (.slice a1 n1 q1) (.slice a2 n2 q2) (.int .i64 ((pages : Int) + 1)) (.bool false) (.bool gd) (.string X0) (.string X1) id turn ss cc b a1 n1 q1 a2 n2 q2 pages false gd s0 s1 (hG.out.v.grow hU.out) hid (by rw [← hO]; exact hm)).mono fun e w' ⟨h1, h2, h3⟩ => ⟨h1, h2, (hG.out.u.trans (hU.out.mono (fun _ _ e => e.elim))).trans (VOwn.same hON h3)⟩
  have HC2 : Hid (∀ W, Hid (Upd noBlock w W) → W.cell? ⟨A.v, 2, none⟩ = some (.int .i64 (A.room : Int))) := fun W hU => (h.grow hU.out).cells.2.2.1
  have dl : decide ((A.room : Int) < (s.size : Int)) = false := decide_eq_false (by omega)
  have dl3 : decide (A.room < s.size) = false := decide_eq_false (by omega)
  rw [hX0, hX1, hO]
  clear h hT hF hn hb hs hs0 hs1 hD hpg hxl hp hpn hid hf he hnf hm hn1 hX0 hX1 hO hON
  go_enter Tryz.func24, Tryz.ntmps24
  go_upto_region 2 with (go_at_call 51; (with_reducible refine HOP.out.mono ?_); rintro r w1 ⟨rfl, U1⟩)
  obtain ⟨g7, hg7⟩ : ∃ g7, g7 = w1.heap.size := ⟨_, rfl⟩
  obtain ⟨w2, hw2⟩ : ∃ w2, w2 = w1.alloc (.cells #[.int .i64 id, .int .i64 turn, .bool ss, .bool cc, .int .i64 (b : Int), .slice a1 n1 q1, .slice a2 n2 q2, .int .i64 (pages : Int), .bool false, .bool gd, .string s0, .string s1] 94) := ⟨_, rfl⟩
  have B2 : Hid (w2.heap[g7]? = some (.cells #[.int .i64 id, .int .i64 turn, .bool ss, .bool cc, .int .i64 (b : Int), .slice a1 n1 q1, .slice a2 n2 q2, .int .i64 (pages : Int), .bool false, .bool gd, .string s0, .string s1] 94 (0, 0))) := by rw [hw2, hg7]; exact heap_alloc_new w1 _
  have U2 : Hid (Upd noBlock w w2) := by rw [hw2]; exact U1.out.alloc _
  rw [← hw2, ← hg7]
  clear hw2 hg7
  have c2 := HC2.out _ U2
  obtain ⟨e0, e1, e2, e3, e4, e5, e6, e7, e8, e9, ea, eb⟩ := cells12 B2.out
  go_upto_region 7 with (go_at_call 52; (with_reducible refine (HEX.out _ U2).mono ?_); rintro r w3 ⟨rfl, G3, K3⟩)
  obtain ⟨g9, hg9⟩ : ∃ g9, g9 = w3.heap.size := ⟨_, rfl⟩
  obtain ⟨w4, hw4⟩ : ∃ w4, w4 = w3.alloc (.cells #[.int .i64 id, .int .i64 turn, .bool ss, .bool cc, .int .i64 (b : Int), .slice a1 n1 q1, .slice a2 n2 q2, .int .i64 ((pages : Int) + 1), .bool false, .bool gd, .string X0, .string X1] 94) := ⟨_, rfl⟩
  have B4 : Hid (w4.heap[g9]? = some (.cells #[.int .i64 id, .int .i64 turn, .bool ss, .bool cc, .int .i64 (b : Int), .slice a1 n1 q1, .slice a2 n2 q2, .int .i64 ((pages : Int) + 1), .bool false, .bool gd, .string X0, .string X1] 94 (0, 0))) := by rw [hw4, hg9]; exact heap_alloc_new w3 _
  have U4 : Hid (Upd noBlock w3 w4) := by rw [hw4]; exact (Upd.refl _ _).alloc _
  have C4 : Hid (w4.heap[g7]? = some (.cells #[.int .i64 id, .int .i64 turn, .bool ss, .bool cc, .int .i64 (b : Int), .slice a1 n1 q1, .slice a2 n2 q2, .int .i64 (pages : Int), .bool false, .bool gd, .string s0, .string s1] 94 (0, 0))) := by rw [hw4]; exact block_alloc (K3.out _ _ B2.out) _
  rw [← hw4, ← hg9]
  clear hw4 hg9 e0 e1 e2 e3 e4 e5 e6 e7 e8 e9 ea eb c2
  obtain ⟨e0, e1, e2, e3, e4, e5, e6, e7, e8, e9, ea, eb⟩ := cells12 B4.out
  go_upto_region 9 with (go_at_call 53; (with_reducible refine (HFU.out _).mono ?_); rintro r w5 ⟨rfl, U5⟩)
  have b5 : w5.heap[g9]? = some (.cells #[.int .i64 id, .int .i64 turn, .bool ss, .bool cc, .int .i64 (b : Int), .slice a1 n1 q1, .slice a2 n2 q2, .int .i64 ((pages : Int) + 1), .bool false, .bool gd, .string X0, .string X1] 94 (0, 0)) := (U5.out.block g9 (lt_of_block B4.out) (fun h => h)).trans B4.out
  have c5 : w5.heap[g7]? = some (.cells #[.int .i64 id, .int .i64 turn, .bool ss, .bool cc, .int .i64 (b : Int), .slice a1 n1 q1, .slice a2 n2 q2, .int .i64 (pages : Int), .bool false, .bool gd, .string s0, .string s1] 94 (0, 0)) := (U5.out.block g7 (lt_of_block C4.out) (fun h => h)).trans C4.out
  have U35 : Hid (Upd noBlock w3 w5) := U4.out.trans U5.out
  clear e0 e1 e2 e3 e4 e5 e6 e7 e8 e9 ea eb
  obtain ⟨e0, e1, e2, e3, e4, e5, e6, e7, e8, e9, ea, eb⟩ := cells12 b5
  obtain ⟨d0, d1, d2, d3, d4, d5, d6, d7, d8, d9, da, db⟩ := cells12 c5
  clear b5 c5
  go_wp2_with (go_at_call 55; (with_reducible refine (HSE.out _ _ G3 U35).mono ?_); rintro r w6 ⟨rfl, G6⟩)
  go_ret
  exact ⟨rfl, G6.out⟩
end
end Go.Proofs.YtoledgpcgjdjjaaGreatDoor

/- Unmap. -/
namespace Go.Proofs.YtoledgpcgjdjjaaGreatDoor
open F
open Go.RowKit Pm Cm
set_option linter.unusedVariables false
attribute [local irreducible] openL decUp empUp Lib.onesCount parT sealed beZ valN labelL

section
variable {A : Vp} {M : Ch} {V : Vo} {w : World}
set_option maxRecDepth 100000 in
set_option maxHeartbeats 6400000 in
theorem unmap_there (n : Nat) (id : Int) (i0 t0 : Int) (ss cc : Bool) (b : Nat) (a1 : Option Addr) (n1 q1 : Nat) (a2 : Option Addr) (n2 q2 : Nat) (pages : Int) (cl gd : Bool) (s0 s1 : ByteArray) (h : VolIn w A M V) (hF : M.Fit n) (hn : n < 4611686018427387904) (hb : b < M.nb) (hid : Wf id) (hf : V.f id = some (.agg #[.int .i64 i0, .int .i64 t0, .bool ss, .bool cc, .int .i64 (b : Int), .slice a1 n1 q1, .slice a2 n2 q2, .int .i64 pages, .bool cl, .bool gd, .string s0, .string s1])) (he : (erP V M b).e ≠ 20) :
    Calls Tryz.prog 26 #[.pointer (some ⟨A.v, 0, none⟩), .int .i64 id] w fun r w' => r = .returned (.int .i64 0) ∧ VGo w A M ⟨0, { (erP V M b).V with f := delI (erP V M b).V.f id }, (erP V M b).M⟩ w' := by
  have hON : (erP V M b).M.nb = M.nb := (erP_keeps V M b).nb
  obtain ⟨c0, c1, c2, c3, c4, c5, c6⟩ := h.cells
  have HL := h.map.look Tryz.underlying78 (zeroSd w) id hid
  rw [hf] at HL
  have HL2 : (Instr.lookup 78 (.map (some A.mb)) (.int .i64 id) true).run Tryz.prog w = .ok (.tuple #[.agg #[.int .i64 i0, .int .i64 t0, .bool ss, .bool cc, .int .i64 (b : Int), .slice a1 n1 q1, .slice a2 n2 q2, .int .i64 pages, .bool cl, .bool gd, .string s0, .string s1], .bool true]) w := HL
  obtain ⟨wa, hwa⟩ : ∃ wa, wa = w.alloc (.cells #[.int .i64 i0, .int .i64 t0, .bool ss, .bool cc, .int .i64 (b : Int), .slice a1 n1 q1, .slice a2 n2 q2, .int .i64 pages, .bool cl, .bool gd, .string s0, .string s1] 94) := ⟨_, rfl⟩
  obtain ⟨g, hg⟩ : ∃ g, g = w.heap.size := ⟨_, rfl⟩
  have UA : Hid (Upd noBlock w wa) := by rw [hwa]; exact (Upd.refl _ _).alloc _
  have bg : wa.heap[g]? = some (.cells #[.int .i64 i0, .int .i64 t0, .bool ss, .bool cc, .int .i64 (b : Int), .slice a1 n1 q1, .slice a2 n2 q2, .int .i64 pages, .bool cl, .bool gd, .string s0, .string s1] 94 (0, 0)) := by rw [hwa, hg]; exact heap_alloc_new w _
  have x4 : wa.cell? ⟨g, 4, none⟩ = some (.int .i64 (b : Int)) := cell_of bg 4
  have HER := Lib.hid (verase_any b n (b : Int) rfl (h.grow UA.out) hF hn hb)
  obtain ⟨O, hO⟩ : ∃ O, erP V M b = O := ⟨_, rfl⟩
  rw [hO] at HER he hON ⊢
  have d20 : (O.e == 20) = false := by simp [he]
  have HDE : Hid (∀ W ty, Hid (VGo wa A M O W) → W.cell? ⟨A.v, 3, none⟩ = some (.map (some A.mb)) ∧ ∃ w5, (Builtin.delete_ #[78, 3] ty #[.map (some A.mb), .int .i64 id]).run Tryz.prog W = .ok (.tuple #[]) w5 ∧ Hid (VGo w A M ⟨0, { O.V with f := delI O.V.f id }, O.M⟩ w5)) := fun W ty hG => by
    obtain ⟨w5, hrun, hm5, hg5⟩ := hG.out.v.map.del Tryz.underlying78 id hid ty
    have u5 : Upd (VOwn A O.M.nb) W w5 := ⟨hg5.os, hg5.tape, hg5.output, hg5.size, fun i hi hn => hg5.block i hi (fun e => hn (.inr (.inl (Option.some.inj e))))⟩
    exact ⟨hG.out.v.cells.2.2.2.1, w5, hrun, hG.out.v.mapped hg5 _ _ hm5, (UA.out.mono (fun _ _ e => e.elim)).trans (hG.out.u.trans (VOwn.same hON u5))⟩
  clear h hF hn hb hid hf he hON HL bg hO
  go_enter Tryz.func26, Tryz.ntmps26
  go_upto_region 4 with fail
  rw [← hwa, ← hg]
  clear hwa hg HL2 c0 c1 c2 c3 c4 c5 c6
  go_upto_region 8 with (go_at_call 42; (with_reducible refine HER.out.mono ?_); rintro r w3 ⟨rfl, G3⟩)
  have G3h : Hid (VGo wa A M O w3) := G3
  obtain ⟨c3, w5, hrun, G5⟩ := HDE.out w3 0 G3h
  clear G3
  go_wp2_with fail
  go_ret
  exact ⟨rfl, G5.out⟩
end
end Go.Proofs.YtoledgpcgjdjjaaGreatDoor

/- Read of a page that is good. -/
namespace Go.Proofs.YtoledgpcgjdjjaaGreatDoor
open F
open Go.RowKit Pm Cm
set_option linter.unusedVariables false
attribute [local irreducible] openL decUp empUp Lib.onesCount parT sealed beZ valN labelL

section
variable {A : Vp} {M : Ch} {V : Vo} {w : World}
end
end Go.Proofs.YtoledgpcgjdjjaaGreatDoor
