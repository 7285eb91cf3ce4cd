import Derived.Test.YtoledgpcgjdjjaaGreatDoorQGFe
import Derived.Test.YtoledgpcgjdjjaaGreatDoorQGCa
import Derived.LaidMore
import Derived.Lay
import Derived.Lib.LaidTab
import Derived.Stop.Joined
import Derived.WideKeyPair
import Derived.SizedLaws
import Derived.Test.YtoledgpcgjdjjaaGreatDoorQSt
import Derived.Test.YtoledgpcgjdjjaaGreatDoorQGNC
/- PageSizes. Made by tools/gen_pagesizes.py. -/
namespace Go.Proofs.YtoledgpcgjdjjaaGreatDoor
open F
open Go.RowKit Pm Cm
set_option linter.unusedVariables false
attribute [local irreducible] openL decUp Lib.onesCount parT sealed

end Go.Proofs.YtoledgpcgjdjjaaGreatDoor

/- PageWrites. Made by tools/gen_pagewrites.py. -/
namespace Go.Proofs.YtoledgpcgjdjjaaGreatDoor
open F
open Go.RowKit Pm Cm
set_option linter.unusedVariables false
attribute [local irreducible] openL decUp Lib.onesCount parT sealed

end Go.Proofs.YtoledgpcgjdjjaaGreatDoor

/- PageApart. Made by tools/gen_pageapart.py. -/
namespace Go.Proofs.YtoledgpcgjdjjaaGreatDoor
open F
open Go.RowKit Pm Cm
set_option linter.unusedVariables false
attribute [local irreducible] openL decUp Lib.onesCount parT sealed

theorem readM_pg (M : Ch) (i j q : Nat) : ((M.readM i).bk j).pg q = (M.bk j).pg q := by
  unfold Ch.readM Ch.setBk
  dsimp only
  split
  · rename_i e; rw [e]
  · rfl
def KF (W W' : World) : Prop := ∀ (i : Nat) (a : Array Value), W.heap[i]? = some (.cells a 101 (0, 0)) → W'.heap[i]? = some (.cells a 101 (0, 0))
theorem PgrIn.kf {w w' : World} {q : Nat} {b p : Int} {c k t : Nat} {ch bb : Nat} {pb : Nat → Nat} {M : Ch} {cc : Nat} (h : PgrIn w q b p c k t ch bb pb M cc) (hu : Upd (POwn ch bb pb M.nb cc) w w') : KF w w' := fun i a hg => by
  obtain ⟨x, hx⟩ := h.code.block
  refine (hu.block i (lt_of_block hg) (fun e => ?_)).trans hg
  rcases e with (e1 | e1 | ⟨b, hb, e1⟩) | e1
  · exact apart hg h.chip.top (by decide) e1
  · obtain ⟨z, hz⟩ := row_block h.chip.blks
    exact apart hg hz (by decide) e1
  · obtain ⟨z, hz⟩ := (h.chip.pgs b hb).block
    exact apart hg hz (by decide) e1
  · exact apart hg hx (by decide) e1
end Go.Proofs.YtoledgpcgjdjjaaGreatDoor

/- Read where bits turn; the chip of PageReads. -/
namespace Go.Proofs.YtoledgpcgjdjjaaGreatDoor
open F
open Go.RowKit Pm Cm
set_option linter.unusedVariables false
attribute [local irreducible] openL decUp Lib.onesCount parT sealed

theorem pread_noise (q : Nat) (b p : Int) (c k t : Nat) (ch bb : Nat) (pb : Nat → Nat) (M : Ch) (cc : Nat) (x y : Int) (i j n seed most : Nat) (hx : x = (i : Int)) (hy : y = (j : Int)) (w : World) (hG : GoodG b p c k t) (h : PgrIn w q b p c k t ch bb pb M cc)
    (hT : ∀ W, Upd (POwn ch bb pb M.nb cc) w W → Tab W) (hF : M.Fit n) (hn : n < 2305843009213693952) (hi : i < M.nb) (hj : j < M.np) (hz : M.sz = rawN t k c) (ho : M.off = false)
    (hse : M.seed = (seed : Int)) (hse2 : seed < 18446744073709551616) (hmo : M.most = (most : Int)) (hm1 : 1 ≤ most) (hm2 : most ≤ 64) (hpc : M.piece = ((k + (13 * t + 7) / 8 : Nat) : Int)) (hst : ((M.bk i).pg j).st ≤ 2) (hd : (((M.bk i).pg j).show M.sz).length = M.sz) :
    Calls Tryz.prog 74 #[.pointer (some ⟨q, 0, none⟩), .int .i64 x, .int .i64 y] w fun e w' => e = .returned (.tuple #[(foundL t k c (pieceL (noisy most (k + (13 * t + 7) / 8) (placeN seed ((M.bk i).rd + 1) i j) (((M.bk i).pg j).show M.sz)) (k + (13 * t + 7) / 8))).val, .int .i64 0]) ∧ PgrIn w' q b p c k t ch bb pb (M.readM i) cc ∧ Upd (POwn ch bb pb M.nb cc) w w' := by
  subst hx hy
  have hr := rawN_pos hG
  have k1 := hG.k1
  have k2 := hG.k2
  have t2 := hG.t2
  refine pread_gen q b p c k t ch bb pb M (M.readM i) cc (i : Int) (j : Int) ⟨(noisy most (k + (13 * t + 7) / 8) (placeN seed ((M.bk i).rd + 1) i j) (((M.bk i).pg j).show M.sz)).toArray⟩ w hG h ?_ hT rfl fun W hW => ?_
  · show (noisy most (k + (13 * t + 7) / 8) (placeN seed ((M.bk i).rd + 1) i j) (((M.bk i).pg j).show M.sz)).toArray.size = _
    rw [List.size_toArray, noisy_len, hd, hz]
  · exact read_noise ch bb pb M i j n seed most (k + (13 * t + 7) / 8) (((M.bk i).pg j).show M.sz) W hW hF hn hi hj ho hse hse2 hmo hm1 hm2 hpc (by omega) (by omega) hd (by omega) (fun w1 h1 => shown_any i j _ hj (by omega) hW.sz hst w1 h1)
structure NR (M : Ch) (nb np sz seed most s : Nat) (x1 : Pg) (n : Nat) : Prop where
  nb : M.nb = nb
  np : M.np = np
  sz : M.sz = sz
  off : M.off = false
  seed : M.seed = (seed : Int)
  most : M.most = (most : Int)
  piece : M.piece = (s : Int)
  fit : M.Fit n
  pg1 : (M.bk 0).pg 1 = x1
  pg2 : ((M.bk 0).pg 2).st = 0
theorem NR.read {M : Ch} {nb np sz seed most s : Nat} {x1 : Pg} {n : Nat} (h : NR M nb np sz seed most s x1 n) : NR (M.readM 0) nb np sz seed most s x1 (n + 1) :=
  ⟨h.nb, h.np, h.sz, h.off, h.seed, h.most, h.piece, h.fit.read 0, by rw [readM_pg]; exact h.pg1, by rw [readM_pg]; exact h.pg2⟩
theorem NR.first (nb np sz seed most s : Nat) (raw : List UInt8) (si mi pi : Int) (h1 : IntKind.u64.wrap si = (seed : Int)) (h2 : mi = (most : Int)) (h3 : most ≤ 64) (h4 : pi = (s : Int)) : NR ((m1C nb np sz 0 1 raw).noiseM si mi pi) nb np sz seed most s ⟨1, false, raw⟩ 1 := by
  have hf := (m1_fit nb np sz 0 1 raw).noise si mi pi
  obtain ⟨a1, a2, a3, a4, a5⟩ := m1_shape nb np sz 0 1 raw
  refine ⟨a1, a2, a3, a4, h1, ?_, h4, hf, m1_pg nb np sz 0 1 raw, ?_⟩
  · show min mi 64 = _
    omega
  · show (((m1C nb np sz 0 1 raw).bk 0).pg 2).st = 0
    rw [m1_eq]; rfl
theorem NR.spoil {M : Ch} {nb np sz seed most s : Nat} {raw : List UInt8} {n : Nat} (h : NR M nb np sz seed most s ⟨1, false, raw⟩ n) : NR (M.spoilM 0 1) nb np sz seed most s ⟨2, false, []⟩ n := by
  refine ⟨h.nb, h.np, h.sz, h.off, h.seed, h.most, h.piece, h.fit.spoil 0 1, ?_, h.pg2⟩
  show ((M.bk 0).pg 1).spoilW = _
  rw [h.pg1]; rfl
def KB (W W' : World) : Prop := ∀ (i : Nat) (a : Array Value) (z : Nat × Nat), W.heap[i]? = some (.cells a 5 z) → W'.heap[i]? = some (.cells a 5 z)
theorem PgrIn.kb {w w' : World} {q : Nat} {b p : Int} {c k t : Nat} {ch bb : Nat} {pb : Nat → Nat} {M : Ch} {cc : Nat} (h : PgrIn w q b p c k t ch bb pb M cc) (hu : Upd (POwn ch bb pb M.nb cc) w w') : KB w w' := fun i a z hg => by
  obtain ⟨x, hx⟩ := h.code.block
  refine (hu.block i (lt_of_block hg) (fun e => ?_)).trans hg
  rcases e with (e1 | e1 | ⟨b, hb, e1⟩) | e1
  · exact apart hg h.chip.top (by decide) e1
  · obtain ⟨z, hz⟩ := row_block h.chip.blks
    exact apart hg hz (by decide) e1
  · obtain ⟨z, hz⟩ := (h.chip.pgs b hb).block
    exact apart hg hz (by decide) e1
  · exact apart hg hx (by decide) e1
theorem Bs.kb {w w' : World} {B : Nat} {v : Value} {l : List UInt8} (h : Bs w B 5 v l) (hu : KB w w') : Bs w' B 5 v l := by
  obtain ⟨g, cap, cur, z, rfl, hB, hg, r⟩ := h
  exact ⟨g, cap, cur, z, rfl, hB, hu g cur z hg, r⟩
end Go.Proofs.YtoledgpcgjdjjaaGreatDoor

/- TopTorn's chip: what stands in it, and what is read from it. -/
namespace Go.Proofs.YtoledgpcgjdjjaaGreatDoor
open F
open Go.RowKit Pm Cm
set_option linter.unusedVariables false
attribute [local irreducible] openL decUp empUp Lib.onesCount parT sealed

structure NS (M : Ch) (nb np sz seed most s n : Nat) : Prop where
  nb : M.nb = nb
  np : M.np = np
  sz : M.sz = sz
  off : M.off = false
  seed : M.seed = (seed : Int)
  most : M.most = (most : Int)
  piece : M.piece = (s : Int)
  fit : M.Fit n
theorem NS.read {M : Ch} {nb np sz seed most s n : Nat} (h : NS M nb np sz seed most s n) (b : Nat) : NS (M.readM b) nb np sz seed most s (n + 1) :=
  ⟨h.nb, h.np, h.sz, h.off, h.seed, h.most, h.piece, h.fit.read b⟩
section
variable {t k c : Nat} {b p : Int} {nb np seed m n q ch bb cc i j : Nat} {pb : Nat → Nat} {M : Ch} {wx W : World}
theorem NS.good (hG : GoodG b p c k t) (l : List UInt8) (hl : l.length ≤ c * k - 7) (hs : seed < 18446744073709551616) (hm1 : 1 ≤ m) (hmt : m ≤ t) (hTx : Tab wx) (hn : n < 1000) (hM : NS M nb np (rawN t k c) seed m (k + (13 * t + 7) / 8) n) (hi : i < nb) (hj : j < np) (x y : Int) (hx : x = (i : Int)) (hy : y = (j : Int))
    (z : Bool) (hpg : (M.bk i).pg j = ⟨1, z, pageL t k c l⟩) (hW : PN wx q b p c k t ch bb pb M cc W) :
    Calls Tryz.prog 74 #[.pointer (some ⟨q, 0, none⟩), .int .i64 x, .int .i64 y] W fun e w' => ∃ N : Nat, e = .returned (.tuple #[.agg #[.int .i64 1, .string ⟨(padL (c * k - 7) l).toArray⟩, .int .i64 (N : Int)], .int .i64 0]) ∧ PN wx q b p c k t ch bb pb (M.readM i) cc w' ∧ KF W w' := by
  have hsh : ((M.bk i).pg j).show M.sz = pageL t k c l := by rw [hpg]; rfl
  have hpl := pageL_size hG l hl
  have hpl2 : (pageL t k c l).length = rawN t k c := by rw [← hpl]; exact List.size_toArray.symm
  have h9 := pread_noise q b p c k t ch bb pb M cc x y i j n seed m hx hy W hG hW.i (hW.tab hTx) hM.fit (by omega) (by rw [hM.nb]; exact hi) (by rw [hM.np]; exact hj) hM.sz hM.off hM.seed hs hM.most hm1 (by have := hG.t2; omega) hM.piece (by rw [hpg]; show 1 ≤ 2; omega) (by rw [hsh, hM.sz, hpl2])
  rw [hsh] at h9
  obtain ⟨N, hN, hf⟩ := found_noisy hG l hl m (placeN seed ((M.bk i).rd + 1) i j) hm1 hmt
  rw [hf] at h9
  exact h9.mono fun e w' ⟨he, hi, hu⟩ => ⟨N, he, hW.upd hi hu rfl, hW.i.kf hu⟩
theorem NS.bad (hG : GoodG b p c k t) (hs : seed < 18446744073709551616) (hm1 : 1 ≤ m) (hmt : m ≤ t) (hTx : Tab wx) (hn : n < 1000) (hM : NS M nb np (rawN t k c) seed m (k + (13 * t + 7) / 8) n) (hi : i < nb) (hj : j < np) (x y : Int) (hx : x = (i : Int)) (hy : y = (j : Int))
    (hpg : ((M.bk i).pg j).st = 2) (hW : PN wx q b p c k t ch bb pb M cc W) :
    Calls Tryz.prog 74 #[.pointer (some ⟨q, 0, none⟩), .int .i64 x, .int .i64 y] W fun e w' => e = .returned (.tuple #[.agg #[.int .i64 2, .string ⟨#[]⟩, .int .i64 0], .int .i64 0]) ∧ PN wx q b p c k t ch bb pb (M.readM i) cc w' ∧ KF W w' := by
  have hsh : ((M.bk i).pg j).show M.sz = zzL (c * (k + (13 * t + 7) / 8)) := by unfold Pg.show; rw [if_neg (by omega), if_neg (by omega), hM.sz]; rfl
  have h9 := pread_noise q b p c k t ch bb pb M cc x y i j n seed m hx hy W hG hW.i (hW.tab hTx) hM.fit (by omega) (by rw [hM.nb]; exact hi) (by rw [hM.np]; exact hj) hM.sz hM.off hM.seed hs hM.most hm1 (by have := hG.t2; omega) hM.piece (by rw [hpg]; omega) (by rw [hsh, hM.sz]; exact List.length_replicate ..)
  rw [hsh, found_spoilt hG m _ hm1 hmt] at h9
  exact h9.mono fun e w' ⟨he, hi, hu⟩ => ⟨he, hW.upd hi hu rfl, hW.i.kf hu⟩
end
structure TT (M : Ch) (sz seed most s mode : Nat) (raws : Nat → List UInt8) (rz : List UInt8) (k left n : Nat) : Prop where
  ns : NS M 2 8 sz seed most s n
  left : M.left = left
  mode : M.mode = mode
  worn : ∀ b, (M.bk b).worn = false
  blank : ∀ p, k ≤ p → (M.bk 0).pg p = pg0
  done : ∀ p, p < k → (M.bk 0).pg p = ⟨1, false, raws p⟩
  one : (M.bk 1).pg 0 = ⟨1, false, rz⟩
structure PT (M : Ch) (sz seed most s : Nat) (P : Nat → Pg) (rz : List UInt8) (n : Nat) : Prop where
  ns : NS M 2 8 sz seed most s n
  pgs : ∀ p, (M.bk 0).pg p = P p
  one : (M.bk 1).pg 0 = ⟨1, false, rz⟩
theorem PT.read {M : Ch} {sz seed most s : Nat} {P : Nat → Pg} {rz : List UInt8} {n : Nat} (h : PT M sz seed most s P rz n) : PT (M.readM 0) sz seed most s P rz (n + 1) :=
  ⟨h.ns.read 0, fun p => by rw [readM_pg]; exact h.pgs p, by rw [readM_pg]; exact h.one⟩
theorem TT.first (sz seed most s : Nat) (raws : Nat → List UInt8) (rz : List UInt8) (si mi pi cn cm : Int) (h1 : IntKind.u64.wrap si = (seed : Int)) (h2 : mi = (most : Int)) (h3 : most ≤ 64) (h4 : pi = (s : Int)) (h5 : 1 ≤ cn) (h6 : cn ≤ 9) :
    TT (((m1C 2 8 sz 1 0 rz).noiseM si mi pi).cutM cn cm) sz seed most s (cutMode cm) raws rz 0 cn.toNat 1 := by
  have hf := ((m1_fit 2 8 sz 1 0 rz).noise si mi pi).cut cn cm (by omega)
  obtain ⟨a1, a2, a3, a4, a5⟩ := m1_shape 2 8 sz 1 0 rz
  refine ⟨⟨a1, a2, a3, a4, h1, ?_, h4, hf⟩, ?_, rfl, fun b => ?_, fun p _ => ?_, fun p hp => absurd hp (Nat.not_lt_zero p), m1_pg 2 8 sz 1 0 rz⟩
  · show min mi 64 = _
    omega
  · show (max cn 1).toNat = cn.toNat
    omega
  · show ((m1C 2 8 sz 1 0 rz).bk b).worn = false
    rw [m1_eq]
    show (if b = 1 then _ else newBk).worn = false
    by_cases e : b = 1
    · rw [if_pos e]; rfl
    · rw [if_neg e]; rfl
  · show ((m1C 2 8 sz 1 0 rz).bk 0).pg p = pg0
    rw [m1_eq]; rfl
section
variable {M : Ch} {sz seed most s mode : Nat} {raws : Nat → List UInt8} {rz : List UInt8} {k left n : Nat}
theorem TT.blankW (h : TT M sz seed most s mode raws rz k left n) : blankFrom (M.bk 0) M.np k = true := blank_yes fun r hr _ => by rw [h.blank r hr]; rfl
theorem TT.prog (h : TT M sz seed most s mode raws rz k left n) (hl : ¬ left = 1) : M.progE 0 k = 0 ∧ TT (M.progM 0 k (raws k)) sz seed most s mode raws rz (k + 1) (left - 1) (n + 1) := by
  have ht : M.torn = false := by unfold Ch.torn; rw [h.left]; exact beq_eq_false_iff_ne.2 hl
  have hm : M.progM 0 k (raws k) = M.changed.setBk 0 ((M.bk 0).setPg k (((M.bk 0).pg k).write (raws k))) := by
    unfold Ch.progM; simp [h.ns.off, h.worn 0, ht, h.blankW]
  have hf := h.ns.fit.prog 0 k (raws k)
  refine ⟨by unfold Ch.progE; simp [h.ns.off, h.worn 0, ht, h.blankW], ?_⟩
  rw [hm] at hf ⊢
  refine ⟨⟨h.ns.nb, h.ns.np, h.ns.sz, ?_, h.ns.seed, h.ns.most, h.ns.piece, hf⟩, ?_, h.mode, fun b => ?_, fun p hp => ?_, fun p hp => ?_, h.one⟩
  · show (M.left == 1) = false; rw [h.left]; exact beq_eq_false_iff_ne.2 hl
  · show M.left - 1 = left - 1; rw [h.left]
  · show (if b = 0 then _ else M.bk b).worn = false
    by_cases e : b = 0
    · rw [if_pos e]; exact h.worn 0
    · rw [if_neg e]; exact h.worn b
  · show (if p = k then _ else (M.bk 0).pg p) = _
    rw [if_neg (by omega)]; exact h.blank p (by omega)
  · show (if p = k then _ else (M.bk 0).pg p) = _
    by_cases e : p = k
    · rw [if_pos e, h.blank k (Nat.le_refl _), e]; rfl
    · rw [if_neg e]; exact h.done p (by omega)
theorem TT.on (h : TT M sz seed most s mode raws rz k left n) : PT M.onM sz seed most s (fun p => if p < k then ⟨1, false, raws p⟩ else pg0) rz n := by
  refine ⟨⟨h.ns.nb, h.ns.np, h.ns.sz, rfl, h.ns.seed, h.ns.most, h.ns.piece, h.ns.fit.on⟩, fun p => ?_, h.one⟩
  show (M.bk 0).pg p = _
  by_cases e : p < k
  · rw [if_pos e]; exact h.done p e
  · rw [if_neg e]; exact h.blank p (by omega)
end
def tornQ (raws : Nat → List UInt8) (W m : Nat) (p : Nat) : Pg := if p = W then (pg0.tear (raws W) m).mark else if 2 ≤ W % 4 ∧ 4 ≤ m ∧ p + 2 = W then ⟨2, false, []⟩ else if p < W then ⟨1, false, raws p⟩ else pg0
theorem TT.tear {M : Ch} {sz seed most s mode : Nat} {raws : Nat → List UInt8} {rz : List UInt8} {k n : Nat} (h : TT M sz seed most s mode raws rz k 1 n) : M.progE 0 k = 20 ∧ PT (M.progM 0 k (raws k)).onM sz seed most s (tornQ raws k mode) rz (n + 1) := by
  have ht : M.torn = true := by unfold Ch.torn; rw [h.left]; rfl
  have hm : M.progM 0 k (raws k) = M.changed.setBk 0 (tearP (M.bk 0) k (raws k) mode) := by
    unfold Ch.progM; simp [h.ns.off, h.worn 0, ht, h.blankW, h.mode]
  have hf := (h.ns.fit.prog 0 k (raws k)).on
  refine ⟨by unfold Ch.progE; simp [h.ns.off, h.worn 0, ht, h.blankW], ?_⟩
  rw [hm] at hf ⊢
  refine ⟨⟨h.ns.nb, h.ns.np, h.ns.sz, rfl, h.ns.seed, h.ns.most, h.ns.piece, hf⟩, fun p => ?_, h.one⟩
  show (tearP (M.bk 0) k (raws k) mode).pg p = _
  have hbl := h.blank k (Nat.le_refl _)
  unfold tearP tornQ
  by_cases e2 : 2 ≤ k % 4 ∧ 4 ≤ mode
  · rw [if_pos e2]
    simp only [Bk.setPg]
    by_cases e : p = k
    · rw [if_neg (show ¬ p = k - 2 by omega), if_pos e, if_pos e, hbl]
    · by_cases e3 : p = k - 2
      · rw [if_pos e3, if_neg e, if_pos ⟨e2.1, e2.2, by omega⟩, h.done (k - 2) (by omega)]; rfl
      · rw [if_neg e3, if_neg e, if_neg e, if_neg e, if_neg (by omega)]
        by_cases e4 : p < k
        · rw [if_pos e4]; exact h.done p e4
        · rw [if_neg e4]; exact h.blank p (by omega)
  · rw [if_neg e2]
    simp only [Bk.setPg]
    by_cases e : p = k
    · rw [if_pos e, if_pos e, hbl]
    · rw [if_neg e, if_neg e, if_neg e, if_neg (by omega)]
      by_cases e4 : p < k
      · rw [if_pos e4]; exact h.done p e4
      · rw [if_neg e4]; exact h.blank p (by omega)
end Go.Proofs.YtoledgpcgjdjjaaGreatDoor

/- TopTorn: the small geometry. -/
namespace Go.Proofs.YtoledgpcgjdjjaaGreatDoor
open F
open Go.RowKit Pm Cm
set_option linter.unusedVariables false
attribute [local irreducible] openL decUp empUp Lib.onesCount parT sealed

end Go.Proofs.YtoledgpcgjdjjaaGreatDoor

/- TopPairBack: plain facts: a spoilt page that no bit turns in; a block being written with no cut ahead; what a group's pages give back. -/
namespace Go.Proofs.YtoledgpcgjdjjaaGreatDoor
open F
open Go.RowKit Pm Cm Pr
set_option linter.unusedVariables false
attribute [local irreducible] openL decUp empUp Lib.onesCount parT sealed

theorem found_zz {t k c : Nat} {b p : Int} (hG : GoodG b p c k t) : foundL t k c (pieceL (zzL (c * (k + (13 * t + 7) / 8))) (k + (13 * t + 7) / 8)) = ⟨2, [], 0⟩ := by
  obtain ⟨b1, b2, p1, p2, p4, c1, c2, k1, k2, t1, t2⟩ := hG
  have m1 : 16 ≤ c * k := by have := Nat.mul_le_mul (show 1 ≤ c by omega) (show 16 ≤ k by omega); omega
  have m2 : c * k ≤ 1024 := Nat.mul_le_mul (show c ≤ 4 by omega) (show k ≤ 256 by omega)
  have hb : (zzL (c * k)).length = c * k := List.length_replicate ..
  have hrl : (zzL (c * (k + (13 * t + 7) / 8))).length = c * (k + (13 * t + 7) / 8) := List.length_replicate ..
  have hpz : ∀ i, i < c → pieceL (zzL (c * (k + (13 * t + 7) / 8))) (k + (13 * t + 7) / 8) i = zzL (k + (13 * t + 7) / 8) := fun i hi => pieceL_rep 0 hi
  have hcz : ∀ i, i < c → chunkL (zzL (c * k)) k i ++ parT t (chunkL (zzL (c * k)) k i) = zzL (k + (13 * t + 7) / 8) := fun i hi => by
    rw [show chunkL (zzL (c * k)) k i = zzL k from chunkL_rep 0 hi, parT_zz t k (by omega) (by omega)]
    unfold zzL; rw [List.replicate_append_replicate]
  have hself : ∀ (l : List UInt8) n, dif l l n ≤ 0 := fun l n => by
    rw [dif_is, unlike_self]
    exact Nat.le_refl _
  obtain ⟨N, hN1, hN2⟩ := near_turned (t := t) (k := k) (c := c) (by omega) (by omega) hb (pieceL (zzL (c * (k + (13 * t + 7) / 8))) (k + (13 * t + 7) / 8)) 0 (Nat.zero_le _) (fun i hi => pieceL_length hrl hi) (fun i hi => by rw [hcz i hi, hpz i hi]; exact hself _ _)
  have hd := decUp_turned (t := t) (k := k) (c := c) (by omega) (by omega) (by omega) hb hN2 c (Nat.le_refl _)
  rw [List.take_of_length_le (Nat.le_of_eq hb)] at hd
  have he : empUp t (pieceL (zzL (c * (k + (13 * t + 7) / 8))) (k + (13 * t + 7) / 8)) c = false := by
    refine empUp_no (by omega) ?_
    rw [hpz 0 (by omega), zer_zz]
    omega
  unfold foundL
  rw [if_neg (by rw [he]; exact Bool.false_ne_true), hd]
  simp only [open_zz (c * k) (by omega) m2]

structure BT (M : Ch) (sz : Nat) (G : Nat → Pg) (n : Nat) : Prop where
  nb : M.nb = 2
  np : M.np = 8
  sz : M.sz = sz
  off : M.off = false
  most : M.most < 1
  left : M.left = 0
  worn : (M.bk 0).worn = false
  pgs : ∀ p, (M.bk 0).pg p = G p
  fit : M.Fit n
theorem BT.new (sz : Nat) : BT (newCh 2 8 sz) sz (fun _ => pg0) 0 :=
  ⟨rfl, rfl, rfl, rfl, by show (0 : Int) < 1; omega, rfl, rfl, fun _ => rfl, newCh_fit 2 8 sz⟩
section
variable {M : Ch} {sz : Nat} {G : Nat → Pg} {n : Nat}
theorem BT.prog (h : BT M sz G n) (p : Nat) (l : List UInt8) (hG : ∀ r, p ≤ r → G r = pg0) : M.progE 0 p = 0 ∧ BT (M.progM 0 p l) sz (fun q => if q = p then ⟨1, false, l⟩ else G q) (n + 1) := by
  have ht : M.torn = false := by unfold Ch.torn; rw [h.left]; rfl
  have hbl : blankFrom (M.bk 0) M.np p = true := blank_yes fun r hr _ => by rw [h.pgs, hG r hr]; rfl
  have hm : M.progM 0 p l = M.changed.setBk 0 ((M.bk 0).setPg p (((M.bk 0).pg p).write l)) := by
    unfold Ch.progM; simp [h.off, h.worn, ht, hbl]
  have hf := h.fit.prog 0 p l
  refine ⟨by unfold Ch.progE; simp [h.off, h.worn, ht, hbl], ?_⟩
  rw [hm] at hf ⊢
  refine ⟨h.nb, h.np, h.sz, ?_, h.most, ?_, h.worn, fun q => ?_, hf⟩
  · show (M.left == 1) = false; rw [h.left]; rfl
  · show M.left - 1 = 0; rw [h.left]
  · show (if q = p then _ else (M.bk 0).pg q) = if q = p then _ else _
    by_cases e : q = p
    · rw [if_pos e, if_pos e, h.pgs, hG p (Nat.le_refl _)]; rfl
    · rw [if_neg e, if_neg e]; exact h.pgs q
theorem BT.spoil (h : BT M sz G n) (p : Nat) : BT (M.spoilM 0 p) sz (fun q => if q = p then (G p).spoilW else G q) n := by
  refine ⟨h.nb, h.np, h.sz, h.off, h.most, h.left, h.worn, fun q => ?_, h.fit.spoil 0 p⟩
  show (if q = p then _ else (M.bk 0).pg q) = if q = p then _ else _
  by_cases e : q = p
  · rw [if_pos e, if_pos e, h.pgs]
  · rw [if_neg e, if_neg e]; exact h.pgs q
theorem BT.read (h : BT M sz G n) : BT (M.readM 0) sz G (n + 1) :=
  ⟨h.nb, h.np, h.sz, h.off, h.most, h.left, h.worn, fun p => by rw [readM_pg]; exact h.pgs p, h.fit.read 0⟩
theorem BT.congr {G' : Nat → Pg} (h : BT M sz G n) (e : ∀ p, G p = G' p) : BT M sz G' n :=
  ⟨h.nb, h.np, h.sz, h.off, h.most, h.left, h.worn, fun p => (h.pgs p).trans (e p), h.fit⟩
end

/-! groups: F the payloads by pages, q the lost page -/
def sp (q p : Nat) : Bool := (p == q) || (p == if q % 4 < 2 then q + 2 else q - 2)
def goneOf (q : Nat) (xs : List Int) : Int := xs.foldl (fun g x => if sp q x.toNat = true then x else g) (-1)
def mmL (k : Nat) : List Int := if k = 0 then [0, 1, 4, 5] else [2, 3, 7]
theorem take_at {α : Type} (xs : List α) (d : α) (i : Nat) (h : i < xs.length) : xs.take (i + 1) = xs.take i ++ [xs.getD i d] := by
  rw [List.getD_eq_getElem?_getD, List.getElem?_eq_getElem h]
  simp
theorem once (k : Fin 2) (q : Fin 8) (i : Fin 4) : i.val < (mmL k.val).length → sp q.val ((mmL k.val).getD i.val 0).toNat = true → goneOf q.val ((mmL k.val).take i.val) = -1 := by revert k q i; decide
theorem xorL_len (x : Int) (L : List ByteArray) : (xorL x L).length = xsz x := by simp [xorL]
/-! what is written, and what stands in the law's own row -/
def srcS (room L : Nat) (Ss : List ByteArray) (p : Nat) : ByteArray := if p < L then (Ss.getD p ⟨#[]⟩).extract 0 (min (Ss.getD p ⟨#[]⟩).size room) else ⟨#[]⟩
structure Plan8 (room L : Nat) (Ss : List ByteArray) (P T : Nat → ByteArray) : Prop where
  src : ∀ p, p < 5 → T p = srcS room L Ss p
  t5 : T 5 = P 5
  t7 : T 7 = P 7
  sizes : ∀ p, (P p).size = room
  fits : ∀ p, (T p).size ≤ room
  pads : ∀ p, (⟨(padL room (T p).data.toList).toArray⟩ : ByteArray) = P p
  p5 : P 5 = ⟨(xorL (room : Int) [P 0, P 1, P 4]).toArray⟩
  p7 : P 7 = ⟨(xorL (room : Int) [P 2, P 3]).toArray⟩
def mdL (k : Nat) : List Int := if k = 0 then [0, 1, 4] else [2, 3]
def parP (k : Nat) : Nat := if k = 0 then 5 else 7
theorem par_xor {room L : Nat} {Ss : List ByteArray} {P T : Nat → ByteArray} (h : Plan8 room L Ss P T) (kk : Nat) (hk : kk < 2) : (⟨(xorL (room : Int) ((mdL kk).map fun x => P x.toNat)).toArray⟩ : ByteArray) = P (parP kk) := by
  have hk2 : kk = 0 ∨ kk = 1 := by omega
  rcases hk2 with rfl | rfl
  · exact h.p5.symm
  · exact h.p7.symm
end Go.Proofs.YtoledgpcgjdjjaaGreatDoor
