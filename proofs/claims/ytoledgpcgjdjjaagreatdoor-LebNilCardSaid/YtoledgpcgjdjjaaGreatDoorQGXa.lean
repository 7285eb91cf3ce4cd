import Derived.Test.YtoledgpcgjdjjaaGreatDoorQIm
import Derived.Test.YtoledgpcgjdjjaaGreatDoorQGFn
import Derived.StillTailTactics
import Derived.Deep.RegionHeld3
/- A volume in memory: its head, its map, its row of worn blocks, its pager; what its calls may turn. -/
namespace Go.Proofs.YtoledgpcgjdjjaaGreatDoor
open F
open Go.RowKit Pm Cm Pr
set_option linter.unusedVariables false
attribute [local irreducible] openL decUp empUp Lib.onesCount parT sealed

structure Vp where
  v : Nat
  q : Nat
  ch : Nat
  bb : Nat
  pb : Nat → Nat
  cc : Nat
  mb : Nat
  wb : Nat
  c : Nat
  k : Nat
  t : Nat
structure Vo where
  turn : Nat
  off : Bool
  worn : Nat → Bool
  f : FnI
  n : Nat
def Vp.room (A : Vp) : Nat := A.c * A.k - 7
def volTop (A : Vp) (nb : Nat) (V : Vo) : Array Value :=
  #[.pointer (some ⟨A.ch, 0, none⟩), .pointer (some ⟨A.q, 0, none⟩), .int .i64 (A.room : Nat), .map (some A.mb), .slice (some ⟨A.wb, 0, none⟩) nb nb, .int .i64 (V.turn : Nat), .bool V.off]
structure VolIn (w : World) (A : Vp) (M : Ch) (V : Vo) : Prop where
  top : w.heap[A.v]? = some (.cells (volTop A M.nb V) 81 (0, 0))
  map : IM w A.mb V.n V.f
  worn : w.rowIs A.wb 4 M.nb (fun i => .bool (V.worn i))
  pgr : PgrIn w A.q (M.nb : Int) (M.np : Int) A.c A.k A.t A.ch A.bb A.pb M A.cc
  good : GoodG (M.nb : Int) (M.np : Int) A.c A.k A.t
  sz : M.sz = rawN A.t A.k A.c
def VOwn (A : Vp) (nb : Nat) : Nat → Prop := fun i => i = A.v ∨ i = A.mb ∨ i = A.wb ∨ POwn A.ch A.bb A.pb nb A.cc i
theorem cells_map {w : World} {a b : Nat} {x : Array Value} {T : TypeId} {z : Nat × Nat} {n : Nat} {f : FnI} (h : w.heap[a]? = some (.cells x T z)) (hm : IM w b n f) : ¬ a = b := by
  rintro rfl
  obtain ⟨es, clock, h9⟩ := hm.block
  rw [h] at h9
  cases h9
theorem POwn.block {w : World} {q : Nat} {b p : Int} {c k t : Nat} {ch bb : Nat} {pb : Nat → Nat} {M : Ch} {cc i : Nat} (h : PgrIn w q b p c k t ch bb pb M cc) (hi : POwn ch bb pb M.nb cc i) : ∃ a T, w.heap[i]? = some (.cells a T (0, 0)) ∧ (T = 125 ∨ T = 132 ∨ T = 147 ∨ T = 177) := by
  rcases hi with (e1 | e1 | ⟨b, hb, e1⟩) | e1
  · subst e1; exact ⟨_, _, h.chip.top, .inl rfl⟩
  · subst e1
    obtain ⟨z, hz⟩ := row_block h.chip.blks
    exact ⟨z, _, hz, .inr (.inl rfl)⟩
  · subst e1
    obtain ⟨z, hz⟩ := (h.chip.pgs b hb).block
    exact ⟨z, _, hz, .inr (.inr (.inl rfl))⟩
  · subst e1
    obtain ⟨x, hx⟩ := h.code.block
    exact ⟨x, _, hx, .inr (.inr (.inr rfl))⟩
theorem PgrIn.keepT {w w' : World} {q : Nat} {b p : Int} {c k t : Nat} {ch bb : Nat} {pb : Nat → Nat} {M : Ch} {cc : Nat} (T : TypeId) (hT : ¬ T = 125 ∧ ¬ T = 132 ∧ ¬ T = 147 ∧ ¬ T = 177) (h : PgrIn w q b p c k t ch bb pb M cc) (hu : Upd (POwn ch bb pb M.nb cc) w w') (i : Nat) (a : Array Value) (hg : w.heap[i]? = some (.cells a T (0, 0))) : w'.heap[i]? = some (.cells a T (0, 0)) := by
  refine (hu.block i (lt_of_block hg) (fun e => ?_)).trans hg
  obtain ⟨a2, T2, hT2, ht⟩ := POwn.block h e
  refine apart hg hT2 ?_ rfl
  rcases ht with rfl | rfl | rfl | rfl
  · exact hT.1
  · exact hT.2.1
  · exact hT.2.2.1
  · exact hT.2.2.2
section
variable {w w' : World} {A : Vp} {M M' : Ch} {V : Vo}
theorem VolIn.cells (h : VolIn w A M V) : w.cell? ⟨A.v, 0, none⟩ = some (.pointer (some ⟨A.ch, 0, none⟩)) ∧ w.cell? ⟨A.v, 1, none⟩ = some (.pointer (some ⟨A.q, 0, none⟩)) ∧ w.cell? ⟨A.v, 2, none⟩ = some (.int .i64 (A.room : Int)) ∧ w.cell? ⟨A.v, 3, none⟩ = some (.map (some A.mb)) ∧ w.cell? ⟨A.v, 4, none⟩ = some (.slice (some ⟨A.wb, 0, none⟩) M.nb M.nb) ∧ w.cell? ⟨A.v, 5, none⟩ = some (.int .i64 (V.turn : Int)) ∧ w.cell? ⟨A.v, 6, none⟩ = some (.bool V.off) :=
  ⟨cell_of h.top 0, cell_of h.top 1, cell_of h.top 2, cell_of h.top 3, cell_of h.top 4, cell_of h.top 5, cell_of h.top 6⟩
theorem VolIn.wb_block (h : VolIn w A M V) : ∃ x, w.heap[A.wb]? = some (.cells x 4 (0, 0)) := row_block h.worn
theorem VolIn.v_wb (h : VolIn w A M V) : ¬ A.v = A.wb := by
  obtain ⟨x, hx⟩ := h.wb_block
  exact apart h.top hx (by decide)
theorem VolIn.v_mb (h : VolIn w A M V) : ¬ A.v = A.mb := cells_map h.top h.map
theorem VolIn.wb_mb (h : VolIn w A M V) : ¬ A.wb = A.mb := by
  obtain ⟨x, hx⟩ := h.wb_block
  exact cells_map hx h.map
theorem VolIn.v_pgr (h : VolIn w A M V) : ¬ POwn A.ch A.bb A.pb M.nb A.cc A.v := fun e => by
  obtain ⟨a, T, hT, ht⟩ := POwn.block h.pgr e
  refine apart h.top hT ?_ rfl
  rcases ht with rfl | rfl | rfl | rfl <;> decide
theorem VolIn.wb_pgr (h : VolIn w A M V) : ¬ POwn A.ch A.bb A.pb M.nb A.cc A.wb := fun e => by
  obtain ⟨a, T, hT, ht⟩ := POwn.block h.pgr e
  obtain ⟨x, hx⟩ := h.wb_block
  refine apart hx hT ?_ rfl
  rcases ht with rfl | rfl | rfl | rfl <;> decide
theorem VolIn.mb_pgr (h : VolIn w A M V) : ¬ POwn A.ch A.bb A.pb M.nb A.cc A.mb := fun e => by
  obtain ⟨a, T, hT, ht⟩ := POwn.block h.pgr e
  exact cells_map hT h.map rfl
theorem VolIn.grow (h : VolIn w A M V) (hu : Upd noBlock w w') : VolIn w' A M V :=
  ⟨(hu.block _ (lt_of_block h.top) id).trans h.top, h.map.upd hu id, row_upd h.worn hu id, h.pgr.keep hu, h.good, h.sz⟩
theorem VolIn.paged (h : VolIn w A M V) (hi : PgrIn w' A.q (M.nb : Int) (M.np : Int) A.c A.k A.t A.ch A.bb A.pb M' A.cc) (hu : Upd (POwn A.ch A.bb A.pb M.nb A.cc) w w') (hn : M'.nb = M.nb) (hp : M'.np = M.np) (hs : M'.sz = M.sz) : VolIn w' A M' V := by
  refine ⟨?_, h.map.upd hu h.mb_pgr, ?_, ?_, ?_, ?_⟩
  · rw [hn]; exact (hu.block _ (lt_of_block h.top) h.v_pgr).trans h.top
  · rw [hn]; exact row_upd h.worn hu h.wb_pgr
  · rw [hn, hp]; exact hi
  · rw [hn, hp]; exact h.good
  · rw [hs]; exact h.sz
theorem VOwn.pgr {a b : World} {nb : Nat} (hu : Upd (POwn A.ch A.bb A.pb nb A.cc) a b) : Upd (VOwn A nb) a b := hu.mono fun _ _ e => .inr (.inr (.inr e))
theorem VolIn.alienT (h : VolIn w A M V) {g j : Nat} {x : Value} {T : TypeId} {y : Array Value} (hy : w.heap[g]? = some (.cells y T (0, 0)))
    (hT : ¬ 118 = T ∧ ¬ 5 = T ∧ ¬ 177 = T ∧ ¬ 3 = T ∧ ¬ T = 125 ∧ ¬ T = 132 ∧ ¬ T = 147) : PgrIn (w.setCell ⟨g, j, none⟩ x) A.q (M.nb : Int) (M.np : Int) A.c A.k A.t A.ch A.bb A.pb M A.cc :=
  h.pgr.alien hy hT ((Upd.refl (oneBlock g) w).setCell (p := ⟨g, j, none⟩) (.inl rfl) x)
theorem VolIn.alien (h : VolIn w A M V) {g : Nat} {T : TypeId} {y : Array Value} (hy : w.heap[g]? = some (.cells y T (0, 0)))
    (hT : ¬ 118 = T ∧ ¬ 5 = T ∧ ¬ 177 = T ∧ ¬ 3 = T ∧ ¬ T = 125 ∧ ¬ T = 132 ∧ ¬ T = 147) (hT2 : ¬ 81 = T ∧ ¬ 4 = T) (hu : Upd (oneBlock g) w w') : VolIn w' A M V := by
  obtain ⟨x, hx⟩ := h.wb_block
  exact ⟨(hu.block _ (lt_of_block h.top) (fun e => apart h.top hy hT2.1 e)).trans h.top, h.map.upd hu (fun e => cells_map hy h.map (Eq.symm e)), row_upd h.worn hu (fun e => apart hx hy hT2.2 e), h.pgr.alien hy hT hu, h.good, h.sz⟩
theorem VolIn.head (h : VolIn w A M V) (j : Nat) (x : Value) (V' : Vo) (hV : (volTop A M.nb V).setIfInBounds j x = volTop A M.nb V') (hf : V'.f = V.f) (hn : V'.n = V.n) (hw : V'.worn = V.worn) : VolIn (w.setCell ⟨A.v, j, none⟩ x) A M V' := by
  have hu : Upd (oneBlock A.v) w (w.setCell ⟨A.v, j, none⟩ x) := (Upd.refl (oneBlock A.v) w).setCell (p := ⟨A.v, j, none⟩) (.inl rfl) x
  refine ⟨?_, ?_, ?_, h.alienT h.top (by decide), h.good, h.sz⟩
  · rw [← hV]; exact block_set h.top x
  · rw [hf, hn]; exact h.map.upd hu (fun e => h.v_mb (Eq.symm e))
  · rw [hw]; exact row_upd h.worn hu (fun e => h.v_wb (Eq.symm e))
theorem VolIn.setOff (h : VolIn w A M V) : VolIn (w.setCell ⟨A.v, 6, none⟩ (.bool true)) A M { V with off := true } := h.head 6 _ _ rfl rfl rfl rfl
theorem VolIn.setTurn (h : VolIn w A M V) (n : Nat) : VolIn (w.setCell ⟨A.v, 5, none⟩ (.int .i64 (n : Int))) A M { V with turn := n } := h.head 5 _ _ rfl rfl rfl rfl
theorem VolIn.setWorn (h : VolIn w A M V) (b : Nat) (hb : b < M.nb) : VolIn (w.setCell ⟨A.wb, b, none⟩ (.bool true)) A M { V with worn := fun i => if i = b then true else V.worn i } := by
  obtain ⟨x, hx⟩ := h.wb_block
  have hu : Upd (oneBlock A.wb) w (w.setCell ⟨A.wb, b, none⟩ (.bool true)) := (Upd.refl (oneBlock A.wb) w).setCell (p := ⟨A.wb, b, none⟩) (.inl rfl) _
  refine ⟨(hu.block _ (lt_of_block h.top) h.v_wb).trans h.top, h.map.upd hu (fun e => h.wb_mb (Eq.symm e)), ?_, h.alienT hx (by decide), h.good, h.sz⟩
  refine (h.worn.set b (.bool true)).congr fun i hi => ?_
  show _ = Value.bool (if i = b then true else V.worn i)
  by_cases e : i = b
  · simp [e]
  · simp [e]
theorem VolIn.mapped (h : VolIn w A M V) (hg : w.grownBy w' (some A.mb)) (f : FnI) (n : Nat) (hm : IM w' A.mb n f) : VolIn w' A M { V with f := f, n := n } := by
  have hu : Upd (oneBlock A.mb) w w' := ⟨hg.os, hg.tape, hg.output, hg.size, fun i hi hn => hg.block i hi (by
    intro e
    exact hn (Option.some.inj e))⟩
  obtain ⟨es, clock, hb⟩ := h.map.block
  have hp : ∀ i, POwn A.ch A.bb A.pb M.nb A.cc i → ¬ i = A.mb := fun i hi e => h.mb_pgr (e ▸ hi)
  refine ⟨(hu.block _ (lt_of_block h.top) h.v_mb).trans h.top, hm, row_upd h.worn hu h.wb_mb, ?_, h.good, h.sz⟩
  refine ⟨h.pgr.pg.upd hu (cells_map h.pgr.pg h.map), h.pgr.chip.upd hu (fun i hi e => hp i (.inl hi) e) (fun g a z hg9 e => cells_map hg9 h.map e), h.pgr.code.by hu (fun e => hp _ (.inr rfl) e) (fun g a z hg9 e => cells_map hg9 h.map e)⟩
end
end Go.Proofs.YtoledgpcgjdjjaaGreatDoor

/- What a volume's calls keep of the chip's answers; write, erase. -/
namespace Go.Proofs.YtoledgpcgjdjjaaGreatDoor
open F
open Go.RowKit Pm Cm Pr
set_option linter.unusedVariables false
attribute [local irreducible] openL decUp empUp Lib.onesCount parT sealed

def toldV (V : Vo) (b : Nat) (e : Int) : Vo := if e = 20 then { V with off := true } else if e = 22 then { V with worn := fun i => if i = b then true else V.worn i } else V
theorem progM_shape (M : Ch) (i j : Nat) (l : List UInt8) : (M.progM i j l).nb = M.nb ∧ (M.progM i j l).np = M.np ∧ (M.progM i j l).sz = M.sz := by
  unfold Ch.progM
  repeat' split
  all_goals exact ⟨rfl, rfl, rfl⟩
theorem eraseM_shape (M : Ch) (i : Nat) : (M.eraseM i).nb = M.nb ∧ (M.eraseM i).np = M.np ∧ (M.eraseM i).sz = M.sz := by
  unfold Ch.eraseM
  repeat' split
  all_goals exact ⟨rfl, rfl, rfl⟩
section
variable {A : Vp} {M : Ch} {V : Vo} {w : World}
set_option maxRecDepth 100000 in
set_option maxHeartbeats 1600000 in
theorem told_any (b : Nat) (e : Int) (h : VolIn w A M V) (hb : b < M.nb) :
    Calls Tryz.prog 70 #[.pointer (some ⟨A.v, 0, none⟩), .int .i64 (b : Int), .int .i64 e] w fun r w' => r = .returned (.int .i64 e) ∧ VolIn w' A M (toldV V b e) ∧ Upd (VOwn A M.nb) w w' := by
  obtain ⟨c0, c1, c2, c3, c4, c5, c6⟩ := h.cells
  have f6 := free_of h.top 6
  have i1 : (0 : Int) ≤ (b : Int) := by omega
  have i2 : (b : Int) < (M.nb : Int) := by omega
  have cw := h.worn.cell hb
  have fw : w.frozen? ⟨A.wb, b, none⟩ = false := by
    obtain ⟨x, hx⟩ := h.wb_block
    exact free_of hx b
  have H := Lib.hid h
  clear h
  unfold toldV
  by_cases e1 : e = 20
  · subst e1
    rw [if_pos rfl]
    go_enter Tryz.func70, Tryz.ntmps70
    go_wp2_with fail
    go_ret
    exact ⟨rfl, H.out.setOff, (Upd.refl _ _).setCell (p := ⟨A.v, 6, none⟩) (.inl (.inl rfl)) _⟩
  · rw [if_neg e1]
    have d1 : (e == 20) = false := beq_eq_false_iff_ne.2 e1
    by_cases e2 : e = 22
    · subst e2
      rw [if_pos rfl]
      go_enter Tryz.func70, Tryz.ntmps70
      go_wp2_with fail
      go_ret
      exact ⟨rfl, H.out.setWorn b hb, (Upd.refl _ _).setCell (p := ⟨A.wb, b, none⟩) (.inl (.inr (.inr (.inl rfl)))) _⟩
    · rw [if_neg e2]
      have d2 : (e == 22) = false := beq_eq_false_iff_ne.2 e2
      go_enter Tryz.func70, Tryz.ntmps70
      go_wp2_with fail
      go_ret
      exact ⟨rfl, H.out, Upd.refl _ _⟩
set_option maxRecDepth 100000 in
set_option maxHeartbeats 1600000 in
theorem vwrite_off (x y : Int) (s : ByteArray) (h : VolIn w A M V) (hoff : V.off = true) :
    Calls Tryz.prog 82 #[.pointer (some ⟨A.v, 0, none⟩), .int .i64 x, .int .i64 y, .string s] w fun r w' => r = .returned (.int .i64 20) ∧ w = w' := by
  obtain ⟨c0, c1, c2, c3, c4, c5, c6⟩ := h.cells
  rw [hoff] at c6
  clear h
  go_enter Tryz.func82, Tryz.ntmps82
  go_wp2_with fail
  go_ret
  exact ⟨rfl, rfl⟩
set_option maxRecDepth 100000 in
set_option maxHeartbeats 1600000 in
theorem vwrite_on (b p n : Nat) (s : ByteArray) (h : VolIn w A M V) (hT : Tab w) (hoff : V.off = false) (hF : M.Fit n) (hn : n < 4611686018427387904) (hb : b < M.nb) (hp : p < M.np) (hs : s.size ≤ A.room) :
    Calls Tryz.prog 82 #[.pointer (some ⟨A.v, 0, none⟩), .int .i64 (b : Int), .int .i64 (p : Int), .string s] w fun r w' => r = .returned (.int .i64 (M.progE b p)) ∧ VolIn w' A (M.progM b p (pageL A.t A.k A.c s.data.toList)) (toldV V b (M.progE b p)) ∧ Upd (VOwn A M.nb) w w' := by
  obtain ⟨c0, c1, c2, c3, c4, c5, c6⟩ := h.cells
  rw [hoff] at c6
  have HW := Lib.hid (write_in A.q (M.nb : Int) (M.np : Int) A.c A.k A.t A.ch A.bb A.pb M A.cc (b : Int) (p : Int) b p n rfl rfl s w h.good h.pgr hT hs hF hn hb hp h.sz)
  have H := Lib.hid h
  have HSH : Hid ((M.progM b p (pageL A.t A.k A.c s.data.toList)).nb = M.nb ∧ (M.progM b p (pageL A.t A.k A.c s.data.toList)).np = M.np ∧ (M.progM b p (pageL A.t A.k A.c s.data.toList)).sz = M.sz) := progM_shape _ _ _ _
  have HB := Lib.hid hb
  generalize M.progE b p = e at *
  generalize M.progM b p (pageL A.t A.k A.c s.data.toList) = M' at *
  have HB2 : Hid (b < M'.nb) := by show b < M'.nb; rw [HSH.out.1]; exact hb
  have HVN : Hid (∀ a c, Upd (VOwn A M'.nb) a c → Upd (VOwn A M.nb) a c) := by
    have e9 := HSH.out.1
    show ∀ a c, Upd (VOwn A M'.nb) a c → Upd (VOwn A M.nb) a c
    rw [e9]; exact fun _ _ h => h
  clear h hT hF hb hn
  go_enter Tryz.func82, Tryz.ntmps82
  go_wp2_with (first
    | (go_at_call 108; (with_reducible refine HW.out.mono ?_); rintro r w1 ⟨rfl, hi, hu⟩; have H1 := Lib.hid (H.out.paged hi hu HSH.out.1 HSH.out.2.1 HSH.out.2.2); have U1 := Lib.hid (VOwn.pgr (A := A) hu); clear hi hu)
    | (go_at_call 70; (with_reducible refine (told_any b e H1.out HB2.out).mono ?_); rintro r w2 ⟨rfl, hv, hu⟩; have H2 := Lib.hid hv; have U2 : Hid (Upd (VOwn A M.nb) w1 w2) := HVN.out _ _ hu; clear hv hu))
  go_ret
  exact ⟨rfl, H2.out, U1.out.trans U2.out⟩
set_option maxRecDepth 100000 in
set_option maxHeartbeats 1600000 in
theorem verase_off (x : Int) (h : VolIn w A M V) (hoff : V.off = true) :
    Calls Tryz.prog 42 #[.pointer (some ⟨A.v, 0, none⟩), .int .i64 x] w fun r w' => r = .returned (.int .i64 20) ∧ w = w' := by
  obtain ⟨c0, c1, c2, c3, c4, c5, c6⟩ := h.cells
  rw [hoff] at c6
  clear h
  go_enter Tryz.func42, Tryz.ntmps42
  go_wp2_with fail
  go_ret
  exact ⟨rfl, rfl⟩
set_option maxRecDepth 100000 in
set_option maxHeartbeats 1600000 in
theorem verase_on (b n : Nat) (h : VolIn w A M V) (hoff : V.off = false) (hF : M.Fit n) (hn : n < 4611686018427387904) (hb : b < M.nb) :
    Calls Tryz.prog 42 #[.pointer (some ⟨A.v, 0, none⟩), .int .i64 (b : Int)] w fun r w' => r = .returned (.int .i64 (M.eraseE b)) ∧ VolIn w' A (M.eraseM b) (toldV V b (M.eraseE b)) ∧ Upd (VOwn A M.nb) w w' := by
  obtain ⟨c0, c1, c2, c3, c4, c5, c6⟩ := h.cells
  rw [hoff] at c6
  have HW := Lib.hid (erase_in A.ch A.bb A.pb M b n w h.pgr.chip hF hn hb (by have := h.good.p1; omega))
  have H := Lib.hid h
  have HSH := Lib.hid (eraseM_shape M b)
  have HB := Lib.hid hb
  generalize M.eraseE b = e at *
  generalize M.eraseM b = M' at *
  have HB2 : Hid (b < M'.nb) := by show b < M'.nb; rw [HSH.out.1]; exact hb
  have HVN : Hid (∀ a c, Upd (VOwn A M'.nb) a c → Upd (VOwn A M.nb) a c) := by
    have e9 := HSH.out.1
    show ∀ a c, Upd (VOwn A M'.nb) a c → Upd (VOwn A M.nb) a c
    rw [e9]; exact fun _ _ h => h
  clear h hF hb hn
  go_enter Tryz.func42, Tryz.ntmps42
  go_wp2_with (first
    | (go_at_call 71; (with_reducible refine HW.out.mono ?_); rintro r w1 ⟨rfl, hc, hu⟩; have H1 := Lib.hid (H.out.paged (H.out.pgr.chipped hu hc) (POwn.chip hu) HSH.out.1 HSH.out.2.1 HSH.out.2.2); have U1 := Lib.hid (VOwn.pgr (A := A) (POwn.chip (cc := A.cc) hu)); clear hc hu)
    | (go_at_call 70; (with_reducible refine (told_any b e H1.out HB2.out).mono ?_); rintro r w2 ⟨rfl, hv, hu⟩; have H2 := Lib.hid hv; have U2 : Hid (Upd (VOwn A M.nb) w1 w2) := HVN.out _ _ hu; clear hv hu))
  go_ret
  exact ⟨rfl, H2.out, U1.out.trans U2.out⟩
end
end Go.Proofs.YtoledgpcgjdjjaaGreatDoor

/- A volume's read. -/
namespace Go.Proofs.YtoledgpcgjdjjaaGreatDoor
open F
open Go.RowKit Pm Cm Pr
set_option linter.unusedVariables false
attribute [local irreducible] openL decUp empUp Lib.onesCount parT sealed

section
variable {A : Vp} {M : Ch} {V : Vo} {w : World}
set_option maxRecDepth 100000 in
set_option maxHeartbeats 3200000 in
theorem vread_gen (M' : Ch) (b : Nat) (y fs ft r : Int) (fp : ByteArray) (h : VolIn w A M V) (hoff : V.off = false) (hb : b < M.nb) (hS : M'.nb = M.nb ∧ M'.np = M.np ∧ M'.sz = M.sz)
    (HR : ∀ W, Upd noBlock w W → Calls Tryz.prog 74 #[.pointer (some ⟨A.q, 0, none⟩), .int .i64 (b : Int), .int .i64 y] W fun e w' => e = .returned (.tuple #[.agg #[.int .i64 fs, .string fp, .int .i64 ft], .int .i64 r]) ∧ PgrIn w' A.q (M.nb : Int) (M.np : Int) A.c A.k A.t A.ch A.bb A.pb M' A.cc ∧ Upd (POwn A.ch A.bb A.pb M.nb A.cc) W w') :
    Calls Tryz.prog 45 #[.pointer (some ⟨A.v, 0, none⟩), .int .i64 (b : Int), .int .i64 y] w fun e w' => e = .returned (.tuple #[.agg #[.int .i64 fs, .string fp, .int .i64 ft], .int .i64 r]) ∧ VolIn w' A M' (toldV V b r) ∧ Upd (VOwn A M.nb) w w' := by
  obtain ⟨r0, hr0⟩ : ∃ r0, r0 = w.heap.size := ⟨_, rfl⟩
  obtain ⟨wa, hwa⟩ : ∃ wa, wa = w.alloc (.cells #[.int .i64 0, .string ⟨#[]⟩, .int .i64 0] 101) := ⟨_, rfl⟩
  have UA : Hid (Upd noBlock w wa) := by rw [hwa]; exact (Upd.refl _ _).alloc _
  have RA : Hid (wa.heap[r0]? = some (.cells #[.int .i64 0, .string ⟨#[]⟩, .int .i64 0] 101 (0, 0))) := by rw [hwa, hr0]; exact heap_alloc_new w _
  have HR0 : Hid (w.heap.size ≤ r0) := Nat.le_of_eq hr0.symm
  have HA := Lib.hid (h.grow UA.out)
  obtain ⟨c0, c1, c2, c3, c4, c5, c6⟩ := HA.out.cells
  rw [hoff] at c6
  have HRD : Hid (Calls Tryz.prog 74 #[.pointer (some ⟨A.q, 0, none⟩), .int .i64 (b : Int), .int .i64 y] wa fun e w' => e = .returned (.tuple #[.agg #[.int .i64 fs, .string fp, .int .i64 ft], .int .i64 r]) ∧ PgrIn w' A.q (M.nb : Int) (M.np : Int) A.c A.k A.t A.ch A.bb A.pb M' A.cc ∧ Upd (POwn A.ch A.bb A.pb M.nb A.cc) wa w') := HR wa UA.out
  have HSH := Lib.hid hS
  have HB := Lib.hid hb
  have HB2 : Hid (b < M'.nb) := by show b < M'.nb; rw [HSH.out.1]; exact hb
  have HVN : Hid (∀ a c, Upd (VOwn A M'.nb) a c → Upd (VOwn A M.nb) a c) := by
    have e9 := HSH.out.1
    show ∀ a c, Upd (VOwn A M'.nb) a c → Upd (VOwn A M.nb) a c
    rw [e9]; exact fun _ _ h => h
  have HKR : Hid (∀ w1 : World, Upd (POwn A.ch A.bb A.pb M.nb A.cc) wa w1 → w1.heap[r0]? = some (.cells #[.int .i64 0, .string ⟨#[]⟩, .int .i64 0] 101 (0, 0))) := fun w1 hu => HA.out.pgr.keepT 101 (by decide) hu r0 _ RA.out
  clear h hS hb HR
  go_enter Tryz.func45, Tryz.ntmps45
  go_upto_region 1 with fail
  rw [← hwa, ← hr0]
  clear hwa hr0
  go_upto_region 4 with (go_at_call 74; (with_reducible refine HRD.out.mono ?_); rintro e w1 ⟨rfl, hi, hu⟩; have H1 := Lib.hid (HA.out.paged hi hu HSH.out.1 HSH.out.2.1 HSH.out.2.2); have U1 := Lib.hid (VOwn.pgr (A := A) hu); have R1 := Lib.hid (HKR.out _ hu); clear hi hu)
  obtain ⟨wf, hwf⟩ : ∃ wf, wf = w1.alloc (.cells #[.int .i64 fs, .string fp, .int .i64 ft] 101) := ⟨_, rfl⟩
  obtain ⟨g0, hg0⟩ : ∃ g0, g0 = w1.heap.size := ⟨_, rfl⟩
  have UF : Hid (Upd noBlock w1 wf) := by rw [hwf]; exact (Upd.refl _ _).alloc _
  have BF : Hid (wf.heap[g0]? = some (.cells #[.int .i64 fs, .string fp, .int .i64 ft] 101 (0, 0))) := by rw [hwf, hg0]; exact heap_alloc_new w1 _
  have NE : Hid (r0 < g0) := by rw [hg0]; exact lt_of_block R1.out
  rw [← hwf, ← hg0]
  have HF := Lib.hid (H1.out.grow UF.out)
  have RF : Hid (wf.heap[r0]? = some (.cells #[.int .i64 0, .string ⟨#[]⟩, .int .i64 0] 101 (0, 0))) := (UF.out.block r0 (lt_of_block R1.out) id).trans R1.out
  clear hwf hg0 c0 c1 c2 c3 c4 c5 c6
  have HTO := Lib.hid (fun W (hW : Upd noBlock wf W) => told_any b r (HF.out.grow hW) HB2.out)
  have x0 := cell_of BF.out 0
  have x1 := cell_of BF.out 1
  have x2 := cell_of BF.out 2
  have HC : Hid (∀ W : World, Hid (W.heap[g0]? = some (.cells #[.int .i64 fs, .string fp, .int .i64 ft] 101 (0, 0))) → W.cell? ⟨g0, 0, none⟩ = some (.int .i64 fs) ∧ W.cell? ⟨g0, 1, none⟩ = some (.string fp) ∧ W.cell? ⟨g0, 2, none⟩ = some (.int .i64 ft) ∧ Hid (W.heap[g0]? = some (.cells #[.int .i64 fs, .string fp, .int .i64 ft] 101 (0, 0)))) := fun W hW => ⟨cell_of hW.out 0, cell_of hW.out 1, cell_of hW.out 2, hW⟩
  have K0 := Lib.hid BF.out
  have K1 : Hid (wf.drew.heap[g0]? = some (.cells #[.int .i64 fs, .string fp, .int .i64 ft] 101 (0, 0))) := BF.out
  have HKD : Hid (∀ W : World, Hid (W.heap[g0]? = some (.cells #[.int .i64 fs, .string fp, .int .i64 ft] 101 (0, 0))) → Hid (W.drew.heap[g0]? = some (.cells #[.int .i64 fs, .string fp, .int .i64 ft] 101 (0, 0)))) := fun W h => h
  have HKS : Hid (∀ (W : World) j v, Hid (W.heap[g0]? = some (.cells #[.int .i64 fs, .string fp, .int .i64 ft] 101 (0, 0))) → Hid ((W.setCell ⟨r0, j, none⟩ v).heap[g0]? = some (.cells #[.int .i64 fs, .string fp, .int .i64 ft] 101 (0, 0)))) := fun W j v h => block_set_other h.out (by show ¬ g0 = r0; have := NE.out; omega) v
  have HFK : Hid (∀ (i : Nat) (a : Array Value) (W : World), Upd (VOwn A M'.nb) wf.drew W → wf.heap[i]? = some (.cells a 101 (0, 0)) → W.heap[i]? = some (.cells a 101 (0, 0))) := fun i a W hu hi => by
    refine (hu.block i (lt_of_block hi) (fun e => ?_)).trans hi
    rcases e with e | e | e | e
    · exact apart hi HF.out.top (by decide) e
    · exact cells_map hi HF.out.map e
    · obtain ⟨x, hx⟩ := HF.out.wb_block
      exact apart hi hx (by decide) e
    · obtain ⟨a2, T, hT, ht⟩ := POwn.block HF.out.pgr e
      refine apart hi hT ?_ rfl
      rcases ht with rfl | rfl | rfl | rfl <;> decide
  go_region_held3 (fun W => W.cell? ⟨g0, 0, none⟩ = some (.int .i64 fs) ∧ W.cell? ⟨g0, 1, none⟩ = some (.string fp) ∧ W.cell? ⟨g0, 2, none⟩ = some (.int .i64 ft) ∧ Hid (W.heap[g0]? = some (.cells #[.int .i64 fs, .string fp, .int .i64 ft] 101 (0, 0))))
    (first | with_reducible exact HC.out _ K0 | with_reducible exact HC.out _ K1 | with_reducible exact HC.out _ K2 | with_reducible exact HC.out _ (HKS.out _ _ _ (HKS.out _ _ _ (HKS.out _ _ _ K2))))
    (first | (go_at_call 70; (with_reducible refine (HTO.out _ (Upd.refl _ _).drew).mono ?_); rintro e w2 ⟨rfl, hv, hu⟩; have H2 := Lib.hid hv; have hb2 := HFK.out r0 _ _ hu RF.out; have R2 := Lib.hid hb2; have K2 := Lib.hid (HFK.out g0 _ _ hu BF.out); have U2 : Hid (Upd (VOwn A M.nb) wf.drew w2) := HVN.out _ _ hu; have y0 := cell_of hb2 0; have y1 := cell_of hb2 1; have y2 := cell_of hb2 2; have f0 := free_of hb2 0; have f1 := free_of hb2 1; have f2 := free_of hb2 2; clear hv hu hb2))
  have u3 : Upd (oneBlock r0) w2 (((w2.setCell ⟨r0, 0, none⟩ (.int .i64 fs)).setCell ⟨r0, 1, none⟩ (.string fp)).setCell ⟨r0, 2, none⟩ (.int .i64 ft)) := (((Upd.refl (oneBlock r0) w2).setCell (p := ⟨r0, 0, none⟩) (.inl rfl) _).setCell (p := ⟨r0, 1, none⟩) (.inl rfl) _).setCell (p := ⟨r0, 2, none⟩) (.inl rfl) _
  have H3 := Lib.hid (H2.out.alien R2.out (by decide) (by decide) u3)
  have U0 : Hid (Upd (VOwn A M.nb) w w2) := ((UA.out.mono (fun _ _ e => e.elim)).trans U1.out).trans ((((Upd.refl noBlock wf).drew.mono (fun _ _ e => e.elim)) |> (fun h => (UF.out.mono (fun _ _ e => e.elim)).trans h) : Upd (VOwn A M.nb) w1 wf.drew).trans U2.out)
  have U3 : Hid (Upd (VOwn A M.nb) w (((w2.setCell ⟨r0, 0, none⟩ (.int .i64 fs)).setCell ⟨r0, 1, none⟩ (.string fp)).setCell ⟨r0, 2, none⟩ (.int .i64 ft))) := ((U0.out.setCell (p := ⟨r0, 0, none⟩) (.inr HR0.out) _).setCell (p := ⟨r0, 1, none⟩) (.inr HR0.out) _).setCell (p := ⟨r0, 2, none⟩) (.inr HR0.out) _
  go_wp2_with fail
  exact bodyPost_ret_by (ret_cell2F rfl _ _ r0 _ _ _ _ _ rfl (found_block _ _ _ _ _ _ _ _ _ R2.out) Tryz.underlying101 rfl fndInfo rfl) rfl ⟨rfl, H3.out, U3.out⟩
end
end Go.Proofs.YtoledgpcgjdjjaaGreatDoor
