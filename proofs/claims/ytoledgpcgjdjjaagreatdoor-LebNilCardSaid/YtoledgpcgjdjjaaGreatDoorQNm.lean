/- The chip: a plain model of it, and how it lies in memory. -/
import Derived.Test.YtoledgpcgjdjjaaGreatDoorRows
import Derived.Test.YtoledgpcgjdjjaaGreatDoorQLib
import Derived.Test.YtoledgpcgjdjjaaGreatDoorQGBy
import Derived.WalkKit
import Derived.Lib.Hide
import Derived.Deep.OwnRows
namespace Go.Proofs.YtoledgpcgjdjjaaGreatDoor
open Go.RowKit

structure Pg where
  st : Nat
  torn : Bool
  data : List UInt8
structure Bk where
  pg : Nat → Pg
  er : Nat
  rd : Nat
  worn : Bool
structure Ch where
  nb : Nat
  np : Nat
  sz : Nat
  bk : Nat → Bk
  seed : Int
  most : Int
  piece : Int
  off : Bool
  left : Nat
  mode : Nat
  changes : Nat
def pg0 : Pg := ⟨0, false, []⟩
def Pg.spoil (x : Pg) : Pg := ⟨2, x.torn, []⟩
def Pg.write (x : Pg) (l : List UInt8) : Pg := ⟨1, x.torn, l⟩
def Pg.spoilW (x : Pg) : Pg := if x.st = 1 then x.spoil else x
def Pg.spoilN (x : Pg) : Pg := if x.st = 0 then x else x.spoil
def Pg.blank (x : Pg) : Bool := x.st == 0 && !x.torn
def Bk.setPg (B : Bk) (p : Nat) (x : Pg) : Bk := { B with pg := fun q => if q = p then x else B.pg q }
def Bk.allPg (B : Bk) (f : Pg → Pg) : Bk := { B with pg := fun q => f (B.pg q) }
def Ch.setBk (M : Ch) (b : Nat) (B : Bk) : Ch := { M with bk := fun k => if k = b then B else M.bk k }
def blankFrom (B : Bk) (np p : Nat) : Bool := (List.range np).all fun k => decide (k < p) || (B.pg k).blank

def bkCell (pb : Nat → Nat) (np : Nat) (bk : Nat → Bk) (i : Nat) : Value :=
  if i % 4 = 0 then .slice (some ⟨pb (i / 4), 0, none⟩) np np
  else if i % 4 = 1 then .int .i64 ((bk (i / 4)).er : Nat)
  else if i % 4 = 2 then .int .i64 ((bk (i / 4)).rd : Nat)
  else .bool (bk (i / 4)).worn
def pgCell (D : Nat → Value) (B : Bk) (i : Nat) : Value :=
  if i % 3 = 0 then .int .i64 ((B.pg (i / 3)).st : Nat) else if i % 3 = 1 then .bool (B.pg (i / 3)).torn else D (i / 3)
theorem bkCell0 (pb : Nat → Nat) (np : Nat) (bk : Nat → Bk) (b : Nat) : bkCell pb np bk (4 * b) = .slice (some ⟨pb b, 0, none⟩) np np := by
  unfold bkCell; rw [if_pos (by omega), show 4 * b / 4 = b by omega]
theorem bkCell1 (pb : Nat → Nat) (np : Nat) (bk : Nat → Bk) (b : Nat) : bkCell pb np bk (4 * b + 1) = .int .i64 ((bk b).er : Nat) := by
  unfold bkCell; rw [if_neg (by omega), if_pos (by omega), show (4 * b + 1) / 4 = b by omega]
theorem bkCell2 (pb : Nat → Nat) (np : Nat) (bk : Nat → Bk) (b : Nat) : bkCell pb np bk (4 * b + 2) = .int .i64 ((bk b).rd : Nat) := by
  unfold bkCell; rw [if_neg (by omega), if_neg (by omega), if_pos (by omega), show (4 * b + 2) / 4 = b by omega]
theorem bkCell3 (pb : Nat → Nat) (np : Nat) (bk : Nat → Bk) (b : Nat) : bkCell pb np bk (4 * b + 3) = .bool (bk b).worn := by
  unfold bkCell; rw [if_neg (by omega), if_neg (by omega), if_neg (by omega), show (4 * b + 3) / 4 = b by omega]
theorem pgCell0 (D : Nat → Value) (B : Bk) (p : Nat) : pgCell D B (3 * p) = .int .i64 ((B.pg p).st : Nat) := by
  unfold pgCell; rw [if_pos (by omega), show 3 * p / 3 = p by omega]
theorem pgCell1 (D : Nat → Value) (B : Bk) (p : Nat) : pgCell D B (3 * p + 1) = .bool (B.pg p).torn := by
  unfold pgCell; rw [if_neg (by omega), if_pos (by omega), show (3 * p + 1) / 3 = p by omega]
theorem pgCell2 (D : Nat → Value) (B : Bk) (p : Nat) : pgCell D B (3 * p + 2) = D p := by
  unfold pgCell; rw [if_neg (by omega), if_neg (by omega), show (3 * p + 2) / 3 = p by omega]

def PgsIn (w : World) (q np sz : Nat) (B : Bk) : Prop :=
  ∃ D : Nat → Value, w.rowIs q 147 (3 * np) (pgCell D B) ∧ (∀ p, p < np → ∃ a n k, D p = .slice a n k) ∧ ∀ p, p < np → (B.pg p).st = 1 → Bs w 0 5 (D p) (B.pg p).data ∧ (B.pg p).data.length = sz
def chTop (bb : Nat) (M : Ch) : Array Value :=
  #[.slice (some ⟨bb, 0, none⟩) M.nb M.nb, .int .i64 (M.np : Nat), .int .i64 (M.sz : Nat), .int .u64 M.seed, .int .i64 M.most, .int .i64 M.piece, .bool M.off, .int .i64 (M.left : Nat), .int .i64 (M.mode : Nat), .int .i64 (M.changes : Nat)]
structure ChipIn (w : World) (c bb : Nat) (pb : Nat → Nat) (M : Ch) : Prop where
  top : w.heap[c]? = some (.cells (chTop bb M) 125 (0, 0))
  blks : w.rowIs bb 132 (4 * M.nb) (bkCell pb M.np M.bk)
  pgs : ∀ b, b < M.nb → PgsIn w (pb b) M.np M.sz (M.bk b)
  inj : ∀ b b', b < M.nb → b' < M.nb → pb b = pb b' → b = b'
  nb : M.nb ≤ 64
  np : M.np ≤ 64
  sz : M.sz ≤ 2048
def Own (c bb : Nat) (pb : Nat → Nat) (nb : Nat) : Nat → Prop := fun k => k = c ∨ k = bb ∨ ∃ b, b < nb ∧ k = pb b

theorem apart {w : World} {a b : Nat} {x y : Array Value} {s t : TypeId} {zs zt : Nat × Nat} (ha : w.heap[a]? = some (.cells x s zs)) (hb : w.heap[b]? = some (.cells y t zt)) (h : ¬ s = t) : ¬ a = b := by
  rintro rfl
  rw [ha] at hb
  injection hb with hb
  injection hb with h1 h2
  exact h h2
theorem row_block {w : World} {b : Nat} {t : TypeId} {n : Nat} {f : Nat → Value} (h : w.rowIs b t n f) : ∃ x, w.heap[b]? = some (.cells x t (0, 0)) := by
  obtain ⟨x, hx, _⟩ := h; exact ⟨x, hx⟩
theorem row_upd {w w' : World} {b : Nat} {t : TypeId} {n : Nat} {f : Nat → Value} (h : w.rowIs b t n f) {R : Nat → Prop} (hu : Upd R w w') (hr : ¬ R b) : w'.rowIs b t n f :=
  h.of_block (hu.block b h.lt hr)
theorem Bs.upd {w w' : World} {B : Nat} {e : TypeId} {v : Value} {l : List UInt8} (h : Bs w B e v l) {R : Nat → Prop} (hu : Upd R w w') (hr : ∀ g x z, w.heap[g]? = some (.cells x e z) → ¬ R g) : Bs w' B e v l := by
  obtain ⟨g, cap, cur, z, rfl, hB, hg, r⟩ := h
  exact ⟨g, cap, cur, z, rfl, hB, (hu.block g (lt_of_block hg) (hr g _ _ hg)).trans hg, r⟩
theorem PgsIn.upd {w w' : World} {q np sz : Nat} {B : Bk} (h : PgsIn w q np sz B) {R : Nat → Prop} (hu : Upd R w w') (hq : ¬ R q) (hr : ∀ g x z, w.heap[g]? = some (.cells x 5 z) → ¬ R g) : PgsIn w' q np sz B := by
  obtain ⟨D, hD, hS, hd⟩ := h
  exact ⟨D, row_upd hD hu hq, hS, fun p hp h1 => ⟨(hd p hp h1).1.upd hu hr, (hd p hp h1).2⟩⟩
theorem PgsIn.grow {w w' : World} {q np sz : Nat} {B : Bk} (h : PgsIn w q np sz B) (hu : Upd noBlock w w') : PgsIn w' q np sz B :=
  h.upd hu (fun h => h) (fun _ _ _ _ h => h)
theorem PgsIn.congr {w : World} {q np sz : Nat} {B B' : Bk} (h : PgsIn w q np sz B) (e : ∀ p, p < np → B.pg p = B'.pg p) : PgsIn w q np sz B' := by
  obtain ⟨D, hD, hS, hd⟩ := h
  refine ⟨D, hD.congr fun i hi => ?_, hS, fun p hp h1 => ?_⟩
  · unfold pgCell; rw [e (i / 3) (by omega)]
  · rw [← e p hp] at h1 ⊢; exact hd p hp h1
theorem PgsIn.block {w : World} {q np sz : Nat} {B : Bk} (h : PgsIn w q np sz B) : ∃ x, w.heap[q]? = some (.cells x 147 (0, 0)) := by
  obtain ⟨D, hD, _⟩ := h; exact row_block hD
theorem PgsIn.lt {w : World} {q np sz : Nat} {B : Bk} (h : PgsIn w q np sz B) : q < w.heap.size := by
  obtain ⟨D, hD, _⟩ := h; exact hD.lt

namespace ChipIn
variable {w w' : World} {c bb : Nat} {pb : Nat → Nat} {M : Ch}
theorem c_bb (h : ChipIn w c bb pb M) : ¬ c = bb := by
  obtain ⟨x, hx⟩ := row_block h.blks
  exact apart h.top hx (by decide)
theorem c_pb (h : ChipIn w c bb pb M) {b : Nat} (hb : b < M.nb) : ¬ c = pb b := by
  obtain ⟨x, hx⟩ := (h.pgs b hb).block
  exact apart h.top hx (by decide)
theorem bb_pb (h : ChipIn w c bb pb M) {b : Nat} (hb : b < M.nb) : ¬ bb = pb b := by
  obtain ⟨x, hx⟩ := (h.pgs b hb).block
  obtain ⟨y, hy⟩ := row_block h.blks
  exact apart hy hx (by decide)
theorem byte_own (h : ChipIn w c bb pb M) (g : Nat) (x : Array Value) (z : Nat × Nat) (hg : w.heap[g]? = some (.cells x 5 z)) : ¬ Own c bb pb M.nb g := by
  rintro (rfl | rfl | ⟨b, hb, rfl⟩)
  · exact apart hg h.top (by decide) rfl
  · obtain ⟨y, hy⟩ := row_block h.blks
    exact apart hg hy (by decide) rfl
  · obtain ⟨y, hy⟩ := (h.pgs b hb).block
    exact apart hg hy (by decide) rfl
theorem upd (h : ChipIn w c bb pb M) {R : Nat → Prop} (hu : Upd R w w') (hr : ∀ k, Own c bb pb M.nb k → ¬ R k) (hb : ∀ g x z, w.heap[g]? = some (.cells x 5 z) → ¬ R g) : ChipIn w' c bb pb M :=
  ⟨hu.cells h.top (hr c (.inl rfl)), row_upd h.blks hu (hr bb (.inr (.inl rfl))), fun b hlt => (h.pgs b hlt).upd hu (hr _ (.inr (.inr ⟨b, hlt, rfl⟩))) hb, h.inj, h.nb, h.np, h.sz⟩
theorem grow (h : ChipIn w c bb pb M) (hu : Upd noBlock w w') : ChipIn w' c bb pb M := h.upd hu (fun _ _ h => h) (fun _ _ _ _ h => h)
theorem drew (h : ChipIn w c bb pb M) : ChipIn w.drew c bb pb M := h.grow (Upd.refl noBlock w).drew
theorem drewN (h : ChipIn w c bb pb M) (n : Nat) : ChipIn (w.drewN n) c bb pb M := h.grow ((Upd.refl noBlock w).drewN n)
theorem lt (h : ChipIn w c bb pb M) {k : Nat} (hk : Own c bb pb M.nb k) : k < w.heap.size := by
  rcases hk with rfl | rfl | ⟨b, hb, rfl⟩
  · exact lt_of_block h.top
  · exact h.blks.lt
  · exact (h.pgs b hb).lt
theorem cell (h : ChipIn w c bb pb M) (i : Nat) : w.cell? ⟨c, i, none⟩ = (chTop bb M)[i]? := cell_of h.top i
theorem free (h : ChipIn w c bb pb M) (i : Nat) : w.frozen? ⟨c, i, none⟩ = false := free_of h.top i
theorem bcell (h : ChipIn w c bb pb M) (i : Nat) (hi : i < 4 * M.nb) : w.cell? ⟨bb, i, none⟩ = some (bkCell pb M.np M.bk i) := h.blks.cell hi
theorem bfree (h : ChipIn w c bb pb M) (i : Nat) : w.frozen? ⟨bb, i, none⟩ = false := h.blks.frozen i
theorem setTop (h : ChipIn w c bb pb M) (i : Nat) (v : Value) (M' : Ch) (e : (chTop bb M).setIfInBounds i v = chTop bb M') (e1 : M'.nb = M.nb) (e2 : M'.np = M.np) (e3 : M'.sz = M.sz) (e4 : M'.bk = M.bk) :
    ChipIn (w.setCell ⟨c, i, none⟩ v) c bb pb M' := by
  have hu : Upd (oneBlock c) w (w.setCell ⟨c, i, none⟩ v) := (Upd.refl (oneBlock c) w).setCell (p := ⟨c, i, none⟩) (.inl rfl) v
  refine ⟨by rw [← e]; exact block_set h.top v, ?_, fun b hb => ?_, ?_, by rw [e1]; exact h.nb, by rw [e2]; exact h.np, by rw [e3]; exact h.sz⟩
  · rw [e1, e2, e4]; exact row_upd h.blks hu (fun e => h.c_bb e.symm)
  · rw [e1] at hb
    rw [e2, e3, e4]
    exact (h.pgs b hb).upd hu (fun e => h.c_pb hb e.symm) (fun g x z hg e => h.byte_own g x z hg (.inl e))
  · rw [e1]; exact h.inj
theorem setBlk (h : ChipIn w c bb pb M) (i : Nat) (v : Value) (M' : Ch) (e : ∀ j, j < 4 * M.nb → (if j = i then v else bkCell pb M.np M.bk j) = bkCell pb M.np M'.bk j) (e0 : chTop bb M' = chTop bb M) (e1 : M'.nb = M.nb) (e2 : M'.np = M.np) (e3 : M'.sz = M.sz)
    (e4 : ∀ b p, b < M.nb → p < M.np → ((M.bk b).pg p) = ((M'.bk b).pg p)) :
    ChipIn (w.setCell ⟨bb, i, none⟩ v) c bb pb M' := by
  have hu : Upd (oneBlock bb) w (w.setCell ⟨bb, i, none⟩ v) := (Upd.refl (oneBlock bb) w).setCell (p := ⟨bb, i, none⟩) (.inl rfl) v
  refine ⟨by rw [e0]; exact hu.cells h.top (fun e => h.c_bb e), ?_, fun b hb => ?_, ?_, by rw [e1]; exact h.nb, by rw [e2]; exact h.np, by rw [e3]; exact h.sz⟩
  · rw [e1, e2]; exact (h.blks.set i v).congr e
  · rw [e1] at hb
    rw [e2, e3]
    exact ((h.pgs b hb).upd hu (fun e => h.bb_pb hb e.symm) (fun g x z hg e => h.byte_own g x z hg (.inr (.inl e)))).congr (fun p hp => e4 b p hb hp)
  · rw [e1]; exact h.inj
theorem setPgs (h : ChipIn w c bb pb M) {b : Nat} (hb : b < M.nb) (B : Bk) (hu : Upd (oneBlock (pb b)) w w') (hp : PgsIn w' (pb b) M.np M.sz B) : ChipIn w' c bb pb (M.setBk b { M.bk b with pg := B.pg }) := by
  refine ⟨hu.cells h.top (fun e => h.c_pb hb e), ?_, fun b' hb' => ?_, h.inj, h.nb, h.np, h.sz⟩
  · refine (row_upd h.blks hu (fun e => h.bb_pb hb e)).congr fun i hi => ?_
    unfold bkCell Ch.setBk
    by_cases e : i / 4 = b
    · simp only [e, if_true]
    · simp only [e, if_false]
  · by_cases e : b' = b
    · subst e
      simp only [Ch.setBk, if_true]
      exact hp.congr (fun p _ => rfl)
    · simp only [Ch.setBk, e, if_false]
      exact (h.pgs b' hb').upd hu (fun e' => e (h.inj b' b hb' hb e')) (fun g x z hg e' => h.byte_own g x z hg (.inr (.inr ⟨b, hb, e'⟩)))
end ChipIn
end Go.Proofs.YtoledgpcgjdjjaaGreatDoor
