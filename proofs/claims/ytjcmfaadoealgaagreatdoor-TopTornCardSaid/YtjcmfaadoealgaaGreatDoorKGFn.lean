import Derived.Test.YtjcmfaadoealgaaGreatDoorKGFe
import Derived.Test.YtjcmfaadoealgaaGreatDoorKGCd
import Derived.Test.YtjcmfaadoealgaaGreatDoorKAr
import Derived.Test.YtjcmfaadoealgaaGreatDoorKSt
import Derived.StillTailTactics
import Derived.Test.YtjcmfaadoealgaaGreatDoorKGBy
import Derived.Deep.RegionHeld3
/- PageSizes. Made by tools/gen_pagesizes.py. -/
namespace Go.Proofs.YtjcmfaadoealgaaGreatDoor
open F
open Go.RowKit Pm Cm
set_option linter.unusedVariables false
attribute [local irreducible] openL decUp Lib.onesCount parT sealed

end Go.Proofs.YtjcmfaadoealgaaGreatDoor

/- PageWrites. Made by tools/gen_pagewrites.py. -/
namespace Go.Proofs.YtjcmfaadoealgaaGreatDoor
open F
open Go.RowKit Pm Cm
set_option linter.unusedVariables false
attribute [local irreducible] openL decUp Lib.onesCount parT sealed

theorem progM_nb (M : Ch) (i j : Nat) (l : List UInt8) : (M.progM i j l).nb = M.nb := by
  unfold Ch.progM
  split
  · rfl
  · split
    · rfl
    · split
      · split <;> rfl
      · rfl
end Go.Proofs.YtjcmfaadoealgaaGreatDoor

/- PageApart. Made by tools/gen_pageapart.py. -/
namespace Go.Proofs.YtjcmfaadoealgaaGreatDoor
open F
open Go.RowKit Pm Cm
set_option linter.unusedVariables false
attribute [local irreducible] openL decUp Lib.onesCount parT sealed

theorem readM_pg (M : Ch) (i j q : Nat) : ((M.readM i).bk j).pg q = (M.bk j).pg q := by
  unfold Ch.readM Ch.setBk
  dsimp only
  split
  · rename_i e; rw [e]
  · rfl
/-- what stands in a block of Found stays through a pager's calls -/
def KF (W W' : World) : Prop := ∀ (i : Nat) (a : Array Value), W.heap[i]? = some (.cells a 40 (0, 0)) → W'.heap[i]? = some (.cells a 40 (0, 0))
theorem PgrIn.kf {w w' : World} {q : Nat} {b p : Int} {c k t : Nat} {ch bb : Nat} {pb : Nat → Nat} {M : Ch} {cc : Nat} (h : PgrIn w q b p c k t ch bb pb M cc) (hu : Upd (POwn ch bb pb M.nb cc) w w') : KF w w' := fun i a hg => by
  obtain ⟨x, hx⟩ := h.code.block
  refine (hu.block i (lt_of_block hg) (fun e => ?_)).trans hg
  rcases e with (e1 | e1 | ⟨b, hb, e1⟩) | e1
  · exact apart hg h.chip.top (by decide) e1
  · obtain ⟨z, hz⟩ := row_block h.chip.blks
    exact apart hg hz (by decide) e1
  · obtain ⟨z, hz⟩ := (h.chip.pgs b hb).block
    exact apart hg hz (by decide) e1
  · exact apart hg hx (by decide) e1
end Go.Proofs.YtjcmfaadoealgaaGreatDoor

/- Read where bits turn; the chip of PageReads. -/
namespace Go.Proofs.YtjcmfaadoealgaaGreatDoor
open F
open Go.RowKit Pm Cm
set_option linter.unusedVariables false
attribute [local irreducible] openL decUp Lib.onesCount parT sealed

/-- Read at a place that is there, the power on, bits turning -/
theorem pread_noise (q : Nat) (b p : Int) (c k t : Nat) (ch bb : Nat) (pb : Nat → Nat) (M : Ch) (cc : Nat) (x y : Int) (i j n seed most : Nat) (hx : x = (i : Int)) (hy : y = (j : Int)) (w : World) (hG : GoodG b p c k t) (h : PgrIn w q b p c k t ch bb pb M cc)
    (hT : ∀ W, Upd (POwn ch bb pb M.nb cc) w W → Tab W) (hF : M.Fit n) (hn : n < 2305843009213693952) (hi : i < M.nb) (hj : j < M.np) (hz : M.sz = rawN t k c) (ho : M.off = false)
    (hse : M.seed = (seed : Int)) (hse2 : seed < 18446744073709551616) (hmo : M.most = (most : Int)) (hm1 : 1 ≤ most) (hm2 : most ≤ 64) (hpc : M.piece = ((k + (13 * t + 7) / 8 : Nat) : Int)) (hst : ((M.bk i).pg j).st ≤ 2) (hd : (((M.bk i).pg j).show M.sz).length = M.sz) :
    Calls Tryz.prog 17 #[.pointer (some ⟨q, 0, none⟩), .int .i64 x, .int .i64 y] w fun e w' => e = .returned (.tuple #[(foundL t k c (pieceL (noisy most (k + (13 * t + 7) / 8) (placeN seed ((M.bk i).rd + 1) i j) (((M.bk i).pg j).show M.sz)) (k + (13 * t + 7) / 8))).val, .int .i64 0]) ∧ PgrIn w' q b p c k t ch bb pb (M.readM i) cc ∧ Upd (POwn ch bb pb M.nb cc) w w' := by
  subst hx hy
  have hr := rawN_pos hG
  have k1 := hG.k1
  have k2 := hG.k2
  have t2 := hG.t2
  refine pread_gen q b p c k t ch bb pb M (M.readM i) cc (i : Int) (j : Int) ⟨(noisy most (k + (13 * t + 7) / 8) (placeN seed ((M.bk i).rd + 1) i j) (((M.bk i).pg j).show M.sz)).toArray⟩ w hG h ?_ hT rfl fun W hW => ?_
  · show (noisy most (k + (13 * t + 7) / 8) (placeN seed ((M.bk i).rd + 1) i j) (((M.bk i).pg j).show M.sz)).toArray.size = _
    rw [List.size_toArray, noisy_len, hd, hz]
  · exact read_noise ch bb pb M i j n seed most (k + (13 * t + 7) / 8) (((M.bk i).pg j).show M.sz) W hW hF hn hi hj ho hse hse2 hmo hm1 hm2 hpc (by omega) (by omega) hd (by omega) (fun w1 h1 => shown_any i j _ hj (by omega) hW.sz hst w1 h1)
/-- PageReads' chip -/
structure NR (M : Ch) (nb np sz seed most s : Nat) (x1 : Pg) (n : Nat) : Prop where
  nb : M.nb = nb
  np : M.np = np
  sz : M.sz = sz
  off : M.off = false
  seed : M.seed = (seed : Int)
  most : M.most = (most : Int)
  piece : M.piece = (s : Int)
  fit : M.Fit n
  pg1 : (M.bk 0).pg 1 = x1
  pg2 : ((M.bk 0).pg 2).st = 0
theorem NR.read {M : Ch} {nb np sz seed most s : Nat} {x1 : Pg} {n : Nat} (h : NR M nb np sz seed most s x1 n) : NR (M.readM 0) nb np sz seed most s x1 (n + 1) :=
  ⟨h.nb, h.np, h.sz, h.off, h.seed, h.most, h.piece, h.fit.read 0, by rw [readM_pg]; exact h.pg1, by rw [readM_pg]; exact h.pg2⟩
theorem NR.first (nb np sz seed most s : Nat) (raw : List UInt8) (si mi pi : Int) (h1 : IntKind.u64.wrap si = (seed : Int)) (h2 : mi = (most : Int)) (h3 : most ≤ 64) (h4 : pi = (s : Int)) : NR ((m1C nb np sz 0 1 raw).noiseM si mi pi) nb np sz seed most s ⟨1, false, raw⟩ 1 := by
  have hf := (m1_fit nb np sz 0 1 raw).noise si mi pi
  obtain ⟨a1, a2, a3, a4, a5⟩ := m1_shape nb np sz 0 1 raw
  refine ⟨a1, a2, a3, a4, h1, ?_, h4, hf, m1_pg nb np sz 0 1 raw, ?_⟩
  · show min mi 64 = _
    omega
  · show (((m1C nb np sz 0 1 raw).bk 0).pg 2).st = 0
    rw [m1_eq]; rfl
theorem NR.spoil {M : Ch} {nb np sz seed most s : Nat} {raw : List UInt8} {n : Nat} (h : NR M nb np sz seed most s ⟨1, false, raw⟩ n) : NR (M.spoilM 0 1) nb np sz seed most s ⟨2, false, []⟩ n := by
  refine ⟨h.nb, h.np, h.sz, h.off, h.seed, h.most, h.piece, h.fit.spoil 0 1, ?_, h.pg2⟩
  show ((M.bk 0).pg 1).spoilW = _
  rw [h.pg1]; rfl
end Go.Proofs.YtjcmfaadoealgaaGreatDoor

/- TopTorn's chip: what stands in it, and what is read from it. -/
namespace Go.Proofs.YtjcmfaadoealgaaGreatDoor
open F
open Go.RowKit Pm Cm
set_option linter.unusedVariables false
attribute [local irreducible] openL decUp empUp Lib.onesCount parT sealed

/-- a chip whose power is on and whose bits turn -/
structure NS (M : Ch) (nb np sz seed most s n : Nat) : Prop where
  nb : M.nb = nb
  np : M.np = np
  sz : M.sz = sz
  off : M.off = false
  seed : M.seed = (seed : Int)
  most : M.most = (most : Int)
  piece : M.piece = (s : Int)
  fit : M.Fit n
theorem NS.read {M : Ch} {nb np sz seed most s n : Nat} (h : NS M nb np sz seed most s n) (b : Nat) : NS (M.readM b) nb np sz seed most s (n + 1) :=
  ⟨h.nb, h.np, h.sz, h.off, h.seed, h.most, h.piece, h.fit.read b⟩
section
variable {t k c : Nat} {b p : Int} {nb np seed m n q ch bb cc i j : Nat} {pb : Nat → Nat} {M : Ch} {wx W : World}
theorem NS.good (hG : GoodG b p c k t) (l : List UInt8) (hl : l.length ≤ c * k - 7) (hs : seed < 18446744073709551616) (hm1 : 1 ≤ m) (hmt : m ≤ t) (hTx : Tab wx) (hn : n < 1000) (hM : NS M nb np (rawN t k c) seed m (k + (13 * t + 7) / 8) n) (hi : i < nb) (hj : j < np) (x y : Int) (hx : x = (i : Int)) (hy : y = (j : Int))
    (z : Bool) (hpg : (M.bk i).pg j = ⟨1, z, pageL t k c l⟩) (hW : PN wx q b p c k t ch bb pb M cc W) :
    Calls Tryz.prog 17 #[.pointer (some ⟨q, 0, none⟩), .int .i64 x, .int .i64 y] W fun e w' => ∃ N : Nat, e = .returned (.tuple #[.agg #[.int .i64 1, .string ⟨(padL (c * k - 7) l).toArray⟩, .int .i64 (N : Int)], .int .i64 0]) ∧ PN wx q b p c k t ch bb pb (M.readM i) cc w' ∧ KF W w' := by
  have hsh : ((M.bk i).pg j).show M.sz = pageL t k c l := by rw [hpg]; rfl
  have hpl := pageL_size hG l hl
  have hpl2 : (pageL t k c l).length = rawN t k c := by rw [← hpl]; exact List.size_toArray.symm
  have h9 := pread_noise q b p c k t ch bb pb M cc x y i j n seed m hx hy W hG hW.i (hW.tab hTx) hM.fit (by omega) (by rw [hM.nb]; exact hi) (by rw [hM.np]; exact hj) hM.sz hM.off hM.seed hs hM.most hm1 (by have := hG.t2; omega) hM.piece (by rw [hpg]; show 1 ≤ 2; omega) (by rw [hsh, hM.sz, hpl2])
  rw [hsh] at h9
  obtain ⟨N, hN, hf⟩ := found_noisy hG l hl m (placeN seed ((M.bk i).rd + 1) i j) hm1 hmt
  rw [hf] at h9
  exact h9.mono fun e w' ⟨he, hi, hu⟩ => ⟨N, he, hW.upd hi hu rfl, hW.i.kf hu⟩
theorem NS.blank0 (hG : GoodG b p c k t) (hs : seed < 18446744073709551616) (hm1 : 1 ≤ m) (hmt : m ≤ t) (hTx : Tab wx) (hn : n < 1000) (hM : NS M nb np (rawN t k c) seed m (k + (13 * t + 7) / 8) n) (hi : i < nb) (hj : j < np) (x y : Int) (hx : x = (i : Int)) (hy : y = (j : Int))
    (hpg : ((M.bk i).pg j).st = 0) (hW : PN wx q b p c k t ch bb pb M cc W) :
    Calls Tryz.prog 17 #[.pointer (some ⟨q, 0, none⟩), .int .i64 x, .int .i64 y] W fun e w' => e = .returned (.tuple #[.agg #[.int .i64 0, .string ⟨#[]⟩, .int .i64 0], .int .i64 0]) ∧ PN wx q b p c k t ch bb pb (M.readM i) cc w' ∧ KF W w' := by
  have hsh : ((M.bk i).pg j).show M.sz = ffL (c * (k + (13 * t + 7) / 8)) := by unfold Pg.show; rw [if_pos hpg, hM.sz]; rfl
  have h9 := pread_noise q b p c k t ch bb pb M cc x y i j n seed m hx hy W hG hW.i (hW.tab hTx) hM.fit (by omega) (by rw [hM.nb]; exact hi) (by rw [hM.np]; exact hj) hM.sz hM.off hM.seed hs hM.most hm1 (by have := hG.t2; omega) hM.piece (by rw [hpg]; omega) (by rw [hsh, hM.sz]; exact List.length_replicate ..)
  rw [hsh, found_erased hG m _ hm1 hmt] at h9
  exact h9.mono fun e w' ⟨he, hi, hu⟩ => ⟨he, hW.upd hi hu rfl, hW.i.kf hu⟩
theorem NS.bad (hG : GoodG b p c k t) (hs : seed < 18446744073709551616) (hm1 : 1 ≤ m) (hmt : m ≤ t) (hTx : Tab wx) (hn : n < 1000) (hM : NS M nb np (rawN t k c) seed m (k + (13 * t + 7) / 8) n) (hi : i < nb) (hj : j < np) (x y : Int) (hx : x = (i : Int)) (hy : y = (j : Int))
    (hpg : ((M.bk i).pg j).st = 2) (hW : PN wx q b p c k t ch bb pb M cc W) :
    Calls Tryz.prog 17 #[.pointer (some ⟨q, 0, none⟩), .int .i64 x, .int .i64 y] W fun e w' => e = .returned (.tuple #[.agg #[.int .i64 2, .string ⟨#[]⟩, .int .i64 0], .int .i64 0]) ∧ PN wx q b p c k t ch bb pb (M.readM i) cc w' ∧ KF W w' := by
  have hsh : ((M.bk i).pg j).show M.sz = zzL (c * (k + (13 * t + 7) / 8)) := by unfold Pg.show; rw [if_neg (by omega), if_neg (by omega), hM.sz]; rfl
  have h9 := pread_noise q b p c k t ch bb pb M cc x y i j n seed m hx hy W hG hW.i (hW.tab hTx) hM.fit (by omega) (by rw [hM.nb]; exact hi) (by rw [hM.np]; exact hj) hM.sz hM.off hM.seed hs hM.most hm1 (by have := hG.t2; omega) hM.piece (by rw [hpg]; omega) (by rw [hsh, hM.sz]; exact List.length_replicate ..)
  rw [hsh, found_spoilt hG m _ hm1 hmt] at h9
  exact h9.mono fun e w' ⟨he, hi, hu⟩ => ⟨he, hW.upd hi hu rfl, hW.i.kf hu⟩
end
/-- block 0 is being written, a cut ahead -/
structure TT (M : Ch) (sz seed most s mode : Nat) (raws : Nat → List UInt8) (rz : List UInt8) (k left n : Nat) : Prop where
  ns : NS M 2 8 sz seed most s n
  left : M.left = left
  mode : M.mode = mode
  worn : ∀ b, (M.bk b).worn = false
  blank : ∀ p, k ≤ p → (M.bk 0).pg p = pg0
  done : ∀ p, p < k → (M.bk 0).pg p = ⟨1, false, raws p⟩
  one : (M.bk 1).pg 0 = ⟨1, false, rz⟩
/-- the pages of block 0 are P -/
structure PT (M : Ch) (sz seed most s : Nat) (P : Nat → Pg) (rz : List UInt8) (n : Nat) : Prop where
  ns : NS M 2 8 sz seed most s n
  pgs : ∀ p, (M.bk 0).pg p = P p
  one : (M.bk 1).pg 0 = ⟨1, false, rz⟩
theorem PT.read {M : Ch} {sz seed most s : Nat} {P : Nat → Pg} {rz : List UInt8} {n : Nat} (h : PT M sz seed most s P rz n) : PT (M.readM 0) sz seed most s P rz (n + 1) :=
  ⟨h.ns.read 0, fun p => by rw [readM_pg]; exact h.pgs p, by rw [readM_pg]; exact h.one⟩
theorem TT.first (sz seed most s : Nat) (raws : Nat → List UInt8) (rz : List UInt8) (si mi pi cn cm : Int) (h1 : IntKind.u64.wrap si = (seed : Int)) (h2 : mi = (most : Int)) (h3 : most ≤ 64) (h4 : pi = (s : Int)) (h5 : 1 ≤ cn) (h6 : cn ≤ 9) :
    TT (((m1C 2 8 sz 1 0 rz).noiseM si mi pi).cutM cn cm) sz seed most s (cutMode cm) raws rz 0 cn.toNat 1 := by
  have hf := ((m1_fit 2 8 sz 1 0 rz).noise si mi pi).cut cn cm (by omega)
  obtain ⟨a1, a2, a3, a4, a5⟩ := m1_shape 2 8 sz 1 0 rz
  refine ⟨⟨a1, a2, a3, a4, h1, ?_, h4, hf⟩, ?_, rfl, fun b => ?_, fun p _ => ?_, fun p hp => absurd hp (Nat.not_lt_zero p), m1_pg 2 8 sz 1 0 rz⟩
  · show min mi 64 = _
    omega
  · show (max cn 1).toNat = cn.toNat
    omega
  · show ((m1C 2 8 sz 1 0 rz).bk b).worn = false
    rw [m1_eq]
    show (if b = 1 then _ else newBk).worn = false
    by_cases e : b = 1
    · rw [if_pos e]; rfl
    · rw [if_neg e]; rfl
  · show ((m1C 2 8 sz 1 0 rz).bk 0).pg p = pg0
    rw [m1_eq]; rfl
section
variable {M : Ch} {sz seed most s mode : Nat} {raws : Nat → List UInt8} {rz : List UInt8} {k left n : Nat}
theorem TT.blankW (h : TT M sz seed most s mode raws rz k left n) : blankFrom (M.bk 0) M.np k = true := blank_yes fun r hr _ => by rw [h.blank r hr]; rfl
theorem TT.prog (h : TT M sz seed most s mode raws rz k left n) (hl : ¬ left = 1) : M.progE 0 k = 0 ∧ TT (M.progM 0 k (raws k)) sz seed most s mode raws rz (k + 1) (left - 1) (n + 1) := by
  have ht : M.torn = false := by unfold Ch.torn; rw [h.left]; exact beq_eq_false_iff_ne.2 hl
  have hm : M.progM 0 k (raws k) = M.changed.setBk 0 ((M.bk 0).setPg k (((M.bk 0).pg k).write (raws k))) := by
    unfold Ch.progM; simp [h.ns.off, h.worn 0, ht, h.blankW]
  have hf := h.ns.fit.prog 0 k (raws k)
  refine ⟨by unfold Ch.progE; simp [h.ns.off, h.worn 0, ht, h.blankW], ?_⟩
  rw [hm] at hf ⊢
  refine ⟨⟨h.ns.nb, h.ns.np, h.ns.sz, ?_, h.ns.seed, h.ns.most, h.ns.piece, hf⟩, ?_, h.mode, fun b => ?_, fun p hp => ?_, fun p hp => ?_, h.one⟩
  · show (M.left == 1) = false; rw [h.left]; exact beq_eq_false_iff_ne.2 hl
  · show M.left - 1 = left - 1; rw [h.left]
  · show (if b = 0 then _ else M.bk b).worn = false
    by_cases e : b = 0
    · rw [if_pos e]; exact h.worn 0
    · rw [if_neg e]; exact h.worn b
  · show (if p = k then _ else (M.bk 0).pg p) = _
    rw [if_neg (by omega)]; exact h.blank p (by omega)
  · show (if p = k then _ else (M.bk 0).pg p) = _
    by_cases e : p = k
    · rw [if_pos e, h.blank k (Nat.le_refl _), e]; rfl
    · rw [if_neg e]; exact h.done p (by omega)
theorem TT.on (h : TT M sz seed most s mode raws rz k left n) : PT M.onM sz seed most s (fun p => if p < k then ⟨1, false, raws p⟩ else pg0) rz n := by
  refine ⟨⟨h.ns.nb, h.ns.np, h.ns.sz, rfl, h.ns.seed, h.ns.most, h.ns.piece, h.ns.fit.on⟩, fun p => ?_, h.one⟩
  show (M.bk 0).pg p = _
  by_cases e : p < k
  · rw [if_pos e]; exact h.done p e
  · rw [if_neg e]; exact h.blank p (by omega)
end
/-- behind the torn Program, the power on again -/
def tornQ (raws : Nat → List UInt8) (W m : Nat) (p : Nat) : Pg := if p = W then (pg0.tear (raws W) m).mark else if 2 ≤ W % 4 ∧ 4 ≤ m ∧ p + 2 = W then ⟨2, false, []⟩ else if p < W then ⟨1, false, raws p⟩ else pg0
theorem TT.tear {M : Ch} {sz seed most s mode : Nat} {raws : Nat → List UInt8} {rz : List UInt8} {k n : Nat} (h : TT M sz seed most s mode raws rz k 1 n) : M.progE 0 k = 20 ∧ PT (M.progM 0 k (raws k)).onM sz seed most s (tornQ raws k mode) rz (n + 1) := by
  have ht : M.torn = true := by unfold Ch.torn; rw [h.left]; rfl
  have hm : M.progM 0 k (raws k) = M.changed.setBk 0 (tearP (M.bk 0) k (raws k) mode) := by
    unfold Ch.progM; simp [h.ns.off, h.worn 0, ht, h.blankW, h.mode]
  have hf := (h.ns.fit.prog 0 k (raws k)).on
  refine ⟨by unfold Ch.progE; simp [h.ns.off, h.worn 0, ht, h.blankW], ?_⟩
  rw [hm] at hf ⊢
  refine ⟨⟨h.ns.nb, h.ns.np, h.ns.sz, rfl, h.ns.seed, h.ns.most, h.ns.piece, hf⟩, fun p => ?_, h.one⟩
  show (tearP (M.bk 0) k (raws k) mode).pg p = _
  have hbl := h.blank k (Nat.le_refl _)
  unfold tearP tornQ
  by_cases e2 : 2 ≤ k % 4 ∧ 4 ≤ mode
  · rw [if_pos e2]
    simp only [Bk.setPg]
    by_cases e : p = k
    · rw [if_neg (show ¬ p = k - 2 by omega), if_pos e, if_pos e, hbl]
    · by_cases e3 : p = k - 2
      · rw [if_pos e3, if_neg e, if_pos ⟨e2.1, e2.2, by omega⟩, h.done (k - 2) (by omega)]; rfl
      · rw [if_neg e3, if_neg e, if_neg e, if_neg e, if_neg (by omega)]
        by_cases e4 : p < k
        · rw [if_pos e4]; exact h.done p e4
        · rw [if_neg e4]; exact h.blank p (by omega)
  · rw [if_neg e2]
    simp only [Bk.setPg]
    by_cases e : p = k
    · rw [if_pos e, if_pos e, hbl]
    · rw [if_neg e, if_neg e, if_neg e, if_neg (by omega)]
      by_cases e4 : p < k
      · rw [if_pos e4]; exact h.done p e4
      · rw [if_neg e4]; exact h.blank p (by omega)
/-- what a page may be, where the law reads it: T the torn page, if any (T = none: all written) -/
def Right (P : Nat → Pg) (raws : Nat → List UInt8) (L : Nat) (T : Option Nat) : Prop := ∀ i, i < 8 →
  match T with
  | none => if i < L then (P i).st = 1 ∧ (∃ z, P i = ⟨1, z, raws i⟩) else (P i).st = 0
  | some W => if i < L ∧ i ≤ W then ((∃ z, P i = ⟨1, z, raws i⟩) ∨ ((P i).st = 2 ∧ (i = W ∨ (2 ≤ W % 4 ∧ i + 2 = W))) ∨ ((P i).st = 0 ∧ i = W)) else (P i).st = 0
theorem right_none (raws : Nat → List UInt8) (L k : Nat) (h : L = k ∨ (8 ≤ L ∧ 8 ≤ k)) : Right (fun p => if p < k then ⟨1, false, raws p⟩ else pg0) raws L none := fun i hi => by
  show if i < L then _ else _
  by_cases e : i < L
  · rw [if_pos e]
    have e2 : i < k := by omega
    simp only [if_pos e2]
    exact ⟨by first | trivial | rfl, false, rfl⟩
  · rw [if_neg e]
    have e2 : ¬ i < k := by omega
    simp only [if_neg e2]
    rfl
theorem right_some (raws : Nat → List UInt8) (L W m : Nat) (h : W < L) : Right (tornQ raws W m) raws L (some W) := fun i hi => by
  show if i < L ∧ i ≤ W then _ else _
  by_cases e : i ≤ W
  · rw [if_pos ⟨by omega, e⟩]
    unfold tornQ
    by_cases e1 : i = W
    · subst e1
      simp only [if_true]
      unfold Pg.tear Pg.mark
      by_cases m1 : m % 3 = 1
      · rw [if_pos m1]; exact .inr (.inl ⟨rfl, .inl (by first | trivial | rfl)⟩)
      · rw [if_neg m1]
        by_cases m2 : m % 3 = 2
        · rw [if_pos m2]; exact .inl ⟨true, rfl⟩
        · rw [if_neg m2]; exact .inr (.inr ⟨rfl, by first | trivial | rfl⟩)
    · rw [if_neg e1]
      by_cases e2 : 2 ≤ W % 4 ∧ 4 ≤ m ∧ i + 2 = W
      · rw [if_pos e2]; exact .inr (.inl ⟨rfl, .inr ⟨e2.1, e2.2.2⟩⟩)
      · rw [if_neg e2, if_pos (by omega)]; exact .inl ⟨false, rfl⟩
  · rw [if_neg (by omega)]
    unfold tornQ
    rw [if_neg (by omega), if_neg (by omega), if_neg (by omega)]
    rfl
end Go.Proofs.YtjcmfaadoealgaaGreatDoor

/- TopTorn: the small geometry. -/
namespace Go.Proofs.YtjcmfaadoealgaaGreatDoor
open F
open Go.RowKit Pm Cm
set_option linter.unusedVariables false
attribute [local irreducible] openL decUp empUp Lib.onesCount parT sealed

theorem round_mod (n N : Int) (h : 0 < N) : ∃ r : Nat, (r : Int) < N ∧ -N < n.tmod N ∧ n.tmod N < N ∧ (n.tmod N + N).tmod N = (r : Int) := by
  have b1 := Int.tmod_lt_of_pos n h
  have b2 := Int.lt_tmod_of_pos n h
  have e := Int.tmod_eq_emod_of_nonneg (a := n.tmod N + N) (b := N) (by omega)
  have c1 := Int.emod_nonneg (n.tmod N + N) (show N ≠ 0 by omega)
  have c2 := Int.emod_lt_of_pos (n.tmod N + N) h
  exact ⟨((n.tmod N + N).tmod N).toNat, by omega, by omega, b1, by omega⟩
set_option maxRecDepth 100000 in
set_option maxHeartbeats 1600000 in
theorem small_any (n : Int) : ∃ k t : Nat, 24 ≤ k ∧ k ≤ 32 ∧ 1 ≤ t ∧ t ≤ 3 ∧ ∀ w, Calls Tryz.prog 9 #[.int .i64 n] w fun e w' => e = .returned (geoV 2 8 1 (k : Int) (t : Int)) ∧ Upd noBlock w w' := by
  obtain ⟨r9, a1, a2, a3, a4⟩ := round_mod n 9 (by decide)
  obtain ⟨r3, b1, b2, b3, b4⟩ := round_mod n 3 (by decide)
  refine ⟨24 + r9, 1 + r3, by omega, by omega, by omega, by omega, fun w => ?_⟩
  obtain ⟨D9, hD9⟩ : ∃ D, n.tmod 9 = D := ⟨_, rfl⟩
  obtain ⟨D3, hD3⟩ : ∃ D, n.tmod 3 = D := ⟨_, rfl⟩
  rw [hD9] at a2 a3 a4
  rw [hD3] at b2 b3 b4
  have e1 : (24 : Int) + (r9 : Int) = ((24 + r9 : Nat) : Int) := by omega
  have e2 : (1 : Int) + (r3 : Int) = ((1 + r3 : Nat) : Int) := by omega
  obtain ⟨k, hk⟩ : ∃ k, 24 + r9 = k := ⟨_, rfl⟩
  obtain ⟨t, ht⟩ : ∃ t, 1 + r3 = t := ⟨_, rfl⟩
  rw [hk] at e1 ⊢
  rw [ht] at e2 ⊢
  have w1 : IntKind.i64.wrap ((24 : Int) + (r9 : Int)) = (k : Int) := by rw [e1, IntKind.wrap_i64]; omega
  have w2 : IntKind.i64.wrap ((1 : Int) + (r3 : Int)) = (t : Int) := by rw [e2, IntKind.wrap_i64]; omega
  obtain ⟨wa, hwa⟩ : ∃ wa, wa = w.alloc (.cells #[.int .i64 0, .int .i64 0, .int .i64 0, .int .i64 0, .int .i64 0] 25) := ⟨_, rfl⟩
  obtain ⟨g, hg⟩ : ∃ g, g = w.heap.size := ⟨_, rfl⟩
  have HA : Hid (wa.heap[g]? = some (.cells #[.int .i64 0, .int .i64 0, .int .i64 0, .int .i64 0, .int .i64 0] 25 (0, 0))) := by rw [hwa, hg]; exact heap_alloc_new w _
  have UA : Hid (Upd noBlock w wa) := by rw [hwa]; exact (Upd.refl _ _).alloc _
  have HG : Hid (w.heap.size ≤ g) := Nat.le_of_eq hg.symm
  clear hk ht e1 e2
  unfold geoV
  go_enter Tryz.func9, Tryz.ntmps9
  go_upto_region 1 with fail
  rw [← hwa, ← hg]
  clear hwa hg
  obtain ⟨x0, x1, x2, x3, x4⟩ := geo_cells HA.out
  have f0 := free_of HA.out 0
  have f1 := free_of HA.out 1
  have f2 := free_of HA.out 2
  have f3 := free_of HA.out 3
  have f4 := free_of HA.out 4
  go_wp2_with fail
  obtain ⟨wy, hwy⟩ : ∃ wy, wy = set5C wa g (.int .i64 2) (.int .i64 8) (.int .i64 1) (.int .i64 (k : Int)) (.int .i64 (t : Int)) := ⟨_, rfl⟩
  have HF : wy.heap[g]? = some (.cells #[.int .i64 2, .int .i64 8, .int .i64 1, .int .i64 (k : Int), .int .i64 (t : Int)] 25 (0, 0)) := by rw [hwy]; exact set5C_at HA.out
  have HU : Upd noBlock w wy := by rw [hwy]; unfold set5C; exact ((((UA.out.setCell (.inr HG.out) _).setCell (.inr HG.out) _).setCell (.inr HG.out) _).setCell (.inr HG.out) _).setCell (.inr HG.out) _
  unfold set5C at hwy
  rw [← hwy]
  clear hwy
  exact bodyPost_ret_by (results_cell_row rfl _ _ g _ _ _ _ rfl HF Tryz.underlying25 rfl geoInfo) rfl ⟨rfl, HU⟩
end Go.Proofs.YtjcmfaadoealgaaGreatDoor

/- TopTorn walked. -/
namespace Go.Proofs.YtjcmfaadoealgaaGreatDoor
open F
open Go.RowKit Pm Cm
set_option linter.unusedVariables false
attribute [local irreducible] openL decUp empUp Lib.onesCount parT sealed

def tornV (T : Option Nat) : Int := match T with
  | none => -1
  | some W => (W : Int)
theorem byteInfoZ : (Tryz.prog.info? 5).map (fun i => (i.zero, i.size, i.bytes)) = some (some (.int .u8 0), 1, 1) := by kernel_rfl
theorem makeP (m : Nat) (hm : m ≤ 5000) : ∀ w : World, (Instr.makeSlice 43 (.int .i64 (m : Int)) (.int .i64 (m : Int))).run Tryz.prog w = .ok (.slice (some ⟨w.heap.size, 0, none⟩) m m) (w.alloc (.cells (madeCells #[.int .u8 0] m) 5)) :=
  run_make_row' (P := Tryz.prog) 43 5 (.int .u8 0) 1 Tryz.underlying43 byteInfoZ rfl .i64 .i64 m (by omega) (by omega)
theorem madeP (w : World) (m : Nat) : ByteRow (w.alloc (.cells (madeCells #[.int .u8 0] m) 5)) w.heap.size m 5 (fun _ => 0) := by
  obtain ⟨c, h1, h2, h3⟩ := World.rowIs_made w (.int .u8 0) m 5
  exact ⟨c, (0, 0), h1, .inl rfl, Nat.le_of_eq h2.symm, fun j hj => h3 j hj⟩
theorem pad_text (s zs : ByteArray) (room zc : Nat) (hzc : room - s.size = zc) (hzs : ⟨(List.replicate zc 0).toArray⟩ = zs) : (⟨(padL room s.data.toList).toArray⟩ : ByteArray) = s ++ zs := by
  rw [← hzs]
  apply ByteArray.ext
  apply Array.ext'
  have hl : s.data.toList.length = s.size := rfl
  simp only [ByteArray.data_append, Array.toList_append, padL, hl, hzc]
theorem PN.base {w wb W : World} {q : Nat} {b p : Int} {c k t : Nat} {ch bb : Nat} {pb : Nat → Nat} {M : Ch} {cc : Nat} (h : PN wb q b p c k t ch bb pb M cc W) (hu : Upd noBlock w wb) : PN w q b p c k t ch bb pb M cc W :=
  ⟨h.i, hu.trans h.u, fun i hi => Nat.le_trans hu.size (h.o i hi)⟩
theorem PN.alien {w W : World} {q : Nat} {b p : Int} {c k t : Nat} {ch bb : Nat} {pb : Nat → Nat} {M : Ch} {cc g j : Nat} {y : Array Value} {T : TypeId} (h : PN w q b p c k t ch bb pb M cc W) (hy : W.heap[g]? = some (.cells y T (0, 0)))
    (hT : ¬ 97 = T ∧ ¬ 5 = T ∧ ¬ 174 = T ∧ ¬ 3 = T ∧ ¬ T = 106 ∧ ¬ T = 150 ∧ ¬ T = 181) (hg : w.heap.size ≤ g) (v : Value) : PN w q b p c k t ch bb pb M cc (W.setCell ⟨g, j, none⟩ v) :=
  ⟨h.i.alien hy hT ((Upd.refl (oneBlock g) W).setCell (p := ⟨g, j, none⟩) (.inl rfl) v), h.u.setCell (p := ⟨g, j, none⟩) (.inr hg) v, h.o⟩
set_option maxRecDepth 100000 in
set_option maxHeartbeats 6400000 in
theorem topTorn_any (n : Int) (a : Option Addr) (L c0 : Nat) (Ss : List ByteArray) (cn cm : Int) (w : World) (hS : Strs w w.heap.size a L Ss) (hL : L ≤ 8796093021952) (hLc : L ≤ c0) (hcm : -9223372036854775808 ≤ cm ∧ cm ≤ 9223372036854775807) (hT : Tab w) :
    Calls Tryz.prog 3 #[.int .i64 n, .slice a L c0, .agg #[.int .i64 cn, .int .i64 cm]] w fun e w' => e = .returned (.bool true) ∧ Upd noBlock w w' := by
  have hnot : ∀ (x : Bool) (w : World), (Op.unary .not (.bool x)).run Tryz.prog w = .ok (.bool (!x)) w := fun _ _ => rfl
  obtain ⟨k, t, k1, k2, t1, t2, hsm⟩ := small_any n
  have HSM := Lib.hid hsm
  have hG : GoodG 2 8 (1 : Nat) k t := ⟨by decide, by decide, by decide, by decide, by decide, by decide, by decide, by omega, by omega, by omega, by omega⟩
  have HG := Lib.hid hG
  have HTW := Lib.hid (fun W (hW : Upd noBlock w W) => hT.upd hW)
  obtain ⟨m, hm⟩ : ∃ m, rawN t k 1 = m := ⟨_, rfl⟩
  have hm1 : m = k + (13 * t + 7) / 8 := by rw [← hm]; exact Nat.one_mul _
  obtain ⟨room, hroom⟩ : ∃ room, 1 * k - 7 = room := ⟨_, rfl⟩
  have hroom2 : room = k - 7 := by omega
  have hmb : m ≤ 60 := by omega
  have HCH : Hid (∀ W, Calls Tryz.prog 10 #[.agg #[.int .i64 2, .int .i64 8, .int .i64 1, .int .i64 (k : Int), .int .i64 (t : Int)]] W fun e w' => NewC 2 8 m W w' e) := fun W => by
    have h9 := chip_good 2 8 1 k t W hG
    rw [hm] at h9
    exact h9
  have HNW : Hid (∀ ch W, Calls Tryz.prog 11 #[.pointer (some ⟨ch, 0, none⟩), .agg #[.int .i64 2, .int .i64 8, .int .i64 1, .int .i64 (k : Int), .int .i64 (t : Int)]] W fun e w' => ∃ q cc, e = .returned (.tuple #[.pointer (some ⟨q, 0, none⟩), .int .i64 0]) ∧ PgrB w' q 2 8 1 k t ch cc ∧ CodeP w' cc t (k : Int) ∧ W.heap.size ≤ q ∧ W.heap.size ≤ cc ∧ Upd noBlock W w') := fun ch W => pnew_good 2 8 1 k t ch W hG
  have HRW : Hid (∀ W, Calls Tryz.prog 12 #[.agg #[.int .i64 2, .int .i64 8, .int .i64 1, .int .i64 (k : Int), .int .i64 (t : Int)]] W fun e w' => e = .returned (.tuple #[.int .i64 (m : Int), .int .i64 (room : Int)]) ∧ Upd noBlock W w') := fun W => by
    have h9 := raw_good 2 8 1 k t W hG
    have e1 : ((1 * (k + (13 * t + 7) / 8) : Nat) : Int) = (m : Int) := by omega
    have e2 : ((1 : Nat) : Int) * (k : Int) - 7 = (room : Int) := by omega
    rw [e1, e2] at h9
    exact h9
  obtain ⟨rz, hrz⟩ : ∃ rz, pageL t k 1 [122] = rz := ⟨_, rfl⟩
  have HWZ : Hid (∀ wx q ch bb pb cc W, Upd noBlock w wx → PN wx q 2 8 1 k t ch bb pb (newCh 2 8 m) cc W → Calls Tryz.prog 13 #[.pointer (some ⟨q, 0, none⟩), .int .i64 1, .int .i64 0, .string ⟨#[122]⟩] W fun e w' => e = .returned (.int .i64 0) ∧ PN wx q 2 8 1 k t ch bb pb (m1C 2 8 m 1 0 rz) cc w') := fun wx q ch bb pb cc W hwx hW => by
    have h9 := write_in q 2 8 1 k t ch bb pb (newCh 2 8 m) cc 1 0 1 0 0 rfl rfl ⟨#[122]⟩ W hG hW.i ((HTW.out _ hwx).upd hW.u) (by show 1 ≤ 1 * k - 7; omega) (newCh_fit 2 8 m) (by decide) (by show 1 < 2; omega) (by show 0 < 8; omega) hm.symm
    rw [m1_e] at h9
    have e : (⟨#[122]⟩ : ByteArray).data.toList = [122] := rfl
    rw [e, hrz] at h9
    exact h9.mono fun e w' ⟨he, hi, hu⟩ => ⟨he, hW.upd hi hu (m1_shape 2 8 m 1 0 rz).1⟩
  obtain ⟨seed, hseed, hseed2⟩ : ∃ seed : Nat, IntKind.u64.wrap n = (seed : Int) ∧ seed < 18446744073709551616 := ⟨(IntKind.u64.wrap n).toNat, by rw [IntKind.wrap_u64]; omega, by rw [IntKind.wrap_u64]; omega⟩
  have HNO : Hid (∀ wx q ch bb pb cc W, PN wx q 2 8 1 k t ch bb pb (m1C 2 8 m 1 0 rz) cc W → Calls Tryz.prog 14 #[.pointer (some ⟨ch, 0, none⟩), .int .i64 n, .int .i64 (t : Int), .int .i64 (m : Int)] W fun e w' => e = .returned (.tuple #[]) ∧ PN wx q 2 8 1 k t ch bb pb ((m1C 2 8 m 1 0 rz).noiseM n (t : Int) (m : Int)) cc w') := fun wx q ch bb pb cc W hW =>
    (noise_any ch bb pb (m1C 2 8 m 1 0 rz) n (t : Int) (m : Int) W hW.i.chip).mono fun e w' ⟨he, hc, hu⟩ => ⟨he, hW.upd (hW.i.chipped (upd_own_c hu) hc) (POwn.chip (upd_own_c hu)) rfl⟩
  have HCT : Hid (∀ wx q ch bb pb cc W (raws : Nat → List UInt8) x, 1 ≤ x → x ≤ 9 → PN wx q 2 8 1 k t ch bb pb ((m1C 2 8 m 1 0 rz).noiseM n (t : Int) (m : Int)) cc W → Calls Tryz.prog 15 #[.pointer (some ⟨ch, 0, none⟩), .int .i64 x, .int .i64 cm] W fun e w' => e = .returned (.tuple #[]) ∧ ∃ M, TT M m seed t m (cutMode cm) raws rz 0 x.toNat 1 ∧ PN wx q 2 8 1 k t ch bb pb M cc w') := fun wx q ch bb pb cc W raws x h5 h6 hW =>
    (cut_any ch bb pb ((m1C 2 8 m 1 0 rz).noiseM n (t : Int) (m : Int)) x cm W hW.i.chip (by omega) hcm.1 hcm.2).mono fun e w' ⟨he, hc, hu⟩ => ⟨he, _, TT.first m seed t m raws rz n (t : Int) (m : Int) x cm hseed rfl (by omega) rfl h5 h6, hW.upd (hW.i.chipped (upd_own_c hu) hc) (POwn.chip (upd_own_c hu)) rfl⟩
  generalize (m1C 2 8 m 1 0 rz).noiseM n (t : Int) (m : Int) = M1 at *
  generalize m1C 2 8 m 1 0 rz = M0 at *
  have HS := Lib.hid hS
  have HM1 := Lib.hid hm1
  have HM := Lib.hid hm
  have HRO := Lib.hid hroom
  have HRO2 := Lib.hid hroom2
  have HRZ := Lib.hid hrz
  have HSD := Lib.hid hseed2
  clear hS hm1 hm hroom hroom2 hrz hseed hseed2 hT hG hsm
  unfold geoV NewC at *
  obtain ⟨wa, hwa⟩ : ∃ wa, wa = w.alloc (.cells #[.int .i64 cn, .int .i64 cm] 23) := ⟨_, rfl⟩
  obtain ⟨A, hA⟩ : ∃ A, A = w.heap.size := ⟨_, rfl⟩
  have HA : Hid (wa.heap[A]? = some (.cells #[.int .i64 cn, .int .i64 cm] 23 (0, 0))) := by rw [hwa, hA]; exact heap_alloc_new w _
  have UA : Hid (Upd noBlock w wa) := by rw [hwa]; exact (Upd.refl _ _).alloc _
  have HAS : Hid (w.heap.size ≤ A) := Nat.le_of_eq hA.symm
  go_enter Tryz.func3, Tryz.ntmps3
  go_upto_region 1 with fail
  rw [← hwa, ← hA]
  clear hwa hA
  go_upto_region 2 with (go_at_call 9; (with_reducible refine (HSM.out _).mono ?_); rintro e w1 ⟨rfl, hu⟩; have U1 := Lib.hid (UA.out.trans hu); have A1 := Lib.hid ((hu.block A (lt_of_block HA.out) id).trans HA.out); clear hu)
  obtain ⟨wb, hwb⟩ : ∃ wb, wb = w1.alloc (.cells #[.int .i64 2, .int .i64 8, .int .i64 1, .int .i64 (k : Int), .int .i64 (t : Int)] 25) := ⟨_, rfl⟩
  have B1 : Hid (wb.heap[w1.heap.size]? = some (.cells #[.int .i64 2, .int .i64 8, .int .i64 1, .int .i64 (k : Int), .int .i64 (t : Int)] 25 (0, 0))) := by rw [hwb]; exact heap_alloc_new w1 _
  have UB : Hid (Upd noBlock w wb) := by rw [hwb]; exact U1.out.alloc _
  have AB : Hid (wb.heap[A]? = some (.cells #[.int .i64 cn, .int .i64 cm] 23 (0, 0))) := by rw [hwb]; exact block_alloc A1.out _
  rw [← hwb]
  generalize w1.heap.size = g at *
  have HGC : Hid (∀ W, Upd noBlock wb W → W.cell? ⟨g, 0, none⟩ = some (.int .i64 2) ∧ W.cell? ⟨g, 1, none⟩ = some (.int .i64 8) ∧ W.cell? ⟨g, 2, none⟩ = some (.int .i64 1) ∧ W.cell? ⟨g, 3, none⟩ = some (.int .i64 (k : Int)) ∧ W.cell? ⟨g, 4, none⟩ = some (.int .i64 (t : Int))) := fun W hW => geo_cells ((hW.block _ (lt_of_block B1.out) id).trans B1.out)
  obtain ⟨z0, z1, z2, z3, z4⟩ := HGC.out wb (Upd.refl _ _)
  clear hwb B1 HA UA A1 U1 HSM
  go_upto_region 9 with (first
    | (go_at_call 10; (with_reducible refine (HCH.out _).mono ?_); rintro e w5 ⟨ch, bb, pb, rfl, hc, hu, hl⟩; have C5 := Lib.hid hc; have L5 : Hid (∀ i, Own ch bb pb 2 i → wb.heap.size ≤ i) := hl; have V5 : Hid (Upd noBlock wb w5) := hu; obtain ⟨z0, z1, z2, z3, z4⟩ := HGC.out _ hu; clear hc hu hl)
    | (go_at_call 11; (with_reducible refine (HNW.out ch _).mono ?_); rintro e w6 ⟨q, cc, rfl, hp, hcd, hq, hcc, hu⟩; have N6 : Hid (PN wb q 2 8 1 k t ch bb pb (newCh 2 8 m) cc w6) := ⟨⟨hp, C5.out.grow hu, hcd⟩, V5.out.trans hu, fun i hi => hi.elim (fun h => L5.out i h) (fun h => by rw [h]; exact Nat.le_trans V5.out.size hcc)⟩; obtain ⟨z0, z1, z2, z3, z4⟩ := HGC.out _ N6.out.u; clear hp hcd hq hcc hu)
    | (go_at_call 12; (with_reducible refine (HRW.out _).mono ?_); rintro e w7 ⟨rfl, hu⟩; have N7 := Lib.hid (N6.out.quiet hu); obtain ⟨z0, z1, z2, z3, z4⟩ := HGC.out _ N7.out.u; clear hu)
    | (go_at_call 13; (with_reducible refine (HWZ.out _ q ch bb pb cc _ UB.out N7.out).mono ?_); rintro e w8 ⟨rfl, hp⟩; have N8 := Lib.hid hp; obtain ⟨z0, z1, z2, z3, z4⟩ := HGC.out _ N8.out.u; clear hp)
    | (go_at_call 14; (with_reducible refine (HNO.out _ q ch bb pb cc _ N8.out).mono ?_); rintro e w9 ⟨rfl, hp⟩; have N9 := Lib.hid (hp.base UB.out); have A9 := Lib.hid ((hp.u.block A (lt_of_block AB.out) id).trans AB.out); clear hp))
  clear N8 N7 N6 C5 L5 V5 z0 z1 z2 z3 z4 HCH HNW HRW HWZ HNO HGC AB M0
  have c0' := cell_of A9.out 0
  have c1' := cell_of A9.out 1
  have f0' := free_of A9.out 0
  obtain ⟨O, hO⟩ : ∃ O : Bool, (decide (cn < 1) || decide (9 < cn)) = O := ⟨_, rfl⟩
  go_cut [66] from 59 to 66 (fun s66 wx => s66 = .bool O ∧ w9 = wx)
  case first =>
    by_cases h1 : cn < 1
    · have d1 : decide (cn < 1) = true := decide_eq_true h1
      rw [d1, Bool.true_or] at hO
      subst hO
      go_wp2_with fail
      go_meet
      exact ⟨rfl, rfl⟩
    · have d1 : decide (cn < 1) = false := decide_eq_false h1
      rw [d1, Bool.false_or] at hO
      obtain ⟨D, hD⟩ : ∃ D, decide (9 < cn) = D := ⟨_, rfl⟩
      rw [hD] at hO
      go_wp2_with fail
      go_meet
      exact ⟨by first | rfl | rw [hO], rfl⟩
  case rest =>
    obtain ⟨rfl, rfl⟩ := hcut
    go_upto_if 66 with fail
    go_cut [] from 67 to 67 (fun wx => ∃ x : Int, 1 ≤ x ∧ x ≤ 9 ∧ Hid (wx.heap[A]? = some (.cells #[.int .i64 x, .int .i64 cm] 23 (0, 0))) ∧ Hid (PN w q 2 8 1 k t ch bb pb M1 cc wx))
    case first =>
      cases O with
      | true =>
        go_wp2_with fail
        go_meet
        exact ⟨3, by omega, by omega, block_set A9.out _, N9.out.alien A9.out (by decide) HAS.out _⟩
      | false =>
        have hx : ¬ cn < 1 ∧ ¬ 9 < cn := by
          rw [Bool.or_eq_false_iff] at hO
          exact ⟨of_decide_eq_false hO.1, of_decide_eq_false hO.2⟩
        go_wp2_with fail
        go_meet
        exact ⟨cn, by omega, by omega, A9, N9⟩
    case rest =>
      clear c0' c1' f0' A9 N9 hO
      obtain ⟨x, hx1, hx9, HA, HN⟩ := hcut
      have c0' := cell_of HA.out 0
      have c1' := cell_of HA.out 1
      obtain ⟨raws, hraws⟩ : ∃ raws : Nat → List UInt8, (fun i => pageL t k 1 (Ss.getD i ⟨#[]⟩).data.toList) = raws := ⟨_, rfl⟩
      go_upto_region 12 with (go_at_call 15; (with_reducible refine (HCT.out _ q ch bb pb cc _ raws x hx1 hx9 HN.out).mono ?_); rintro e w11 ⟨rfl, M2, hM, hp⟩; have HM2 := Lib.hid hM; have N11 := Lib.hid hp; clear hM hp)
      clear c0' c1' HA HN HCT
      have HRW := Lib.hid hraws
      have HROW : Hid (∀ W, Upd noBlock w W → 0 < L → ∃ gs off, a = some ⟨gs, off, none⟩ ∧ ∀ i, i < L → W.cell? ⟨gs, off + i, none⟩ = some (.string (Ss.getD i ⟨#[]⟩))) := fun W hW h0 => by
        obtain ⟨gs, off, ha, _, hc⟩ := (HS.out.grow hW (Nat.le_refl _)).cell h0
        exact ⟨gs, off, ha, hc⟩
      have HWR : Hid (∀ q ch bb pb cc W M kk left n', TT M m seed t m (cutMode cm) raws rz kk left n' → n' < 1000 → kk < 8 → (Ss.getD kk ⟨#[]⟩).size ≤ room → PN w q 2 8 1 k t ch bb pb M cc W → Calls Tryz.prog 13 #[.pointer (some ⟨q, 0, none⟩), .int .i64 0, .int .i64 (kk : Int), .string (Ss.getD kk ⟨#[]⟩)] W fun e w' => e = .returned (.int .i64 (M.progE 0 kk)) ∧ PN w q 2 8 1 k t ch bb pb (M.progM 0 kk (raws kk)) cc w') := fun q ch bb pb cc W M kk left n' hM hn hk hs hW => by
        have h9 := write_in q 2 8 1 k t ch bb pb M cc 0 (kk : Int) 0 kk n' rfl rfl (Ss.getD kk ⟨#[]⟩) W HG.out hW.i (HTW.out _ hW.u) (by rw [HRO.out]; exact hs) hM.ns.fit (by omega) (by rw [hM.ns.nb]; omega) (by rw [hM.ns.np]; omega) (by rw [hM.ns.sz, HM.out])
        have e : pageL t k 1 (Ss.getD kk ⟨#[]⟩).data.toList = raws kk := by rw [← HRW.out]
        rw [e] at h9
        exact h9.mono fun e w' ⟨he, hi, hu⟩ => ⟨he, hW.upd hi hu (progM_nb _ _ _ _)⟩
      obtain ⟨X, hX⟩ : ∃ X, x.toNat = X := ⟨_, rfl⟩
      rw [hX] at HM2
      have hX1 : 1 ≤ X := by omega
      have hX9 : X ≤ 9 := by omega
      clear hraws hX hx1 hx9
      go_upto_block 0 with fail
      go_cut [1, 9, 14, 15] from 74 to 105 (fun s1 s9 s14 s15 wx => ∃ (L' : Nat) (a' : Option Addr) (c' : Nat) (T : Option Nat) (M : Ch) (P : Nat → Pg) (n' : Nat), s1 = .slice a' L' c' ∧ s14 = .int .i64 (tornV T) ∧ L' ≤ L ∧ (0 < L' → a' = a) ∧ Hid (∀ W, T = some W → W < L' ∧ W < 8) ∧ Hid (∀ j, j < L' → j < 8 → (∀ W, T = some W → j ≤ W) → (Ss.getD j ⟨#[]⟩).size ≤ room) ∧ Hid (PT M.onM m seed t m P rz n') ∧ n' ≤ 20 ∧ Hid (Right P raws L' T) ∧ Hid (PN w q 2 8 1 k t ch bb pb M cc wx))
      case first =>
        go_wp2
        go_loopw [1, 9, 14, 15] (fun s1 s9 s14 s15 wr => ∃ (kk : Nat) (M : Ch) (e : Int), s1 = .slice a L c0 ∧ s9 = .int .i64 e ∧ s14 = .int .i64 (-1) ∧ s15 = .int .i64 (kk : Int) ∧ kk ≤ 8 ∧ kk ≤ L ∧ kk < X ∧ Hid (TT M m seed t m (cutMode cm) raws rz kk (X - kk) (kk + 1)) ∧ Hid (PN w q 2 8 1 k t ch bb pb M cc wr) ∧ Hid (∀ j, j < kk → (Ss.getD j ⟨#[]⟩).size ≤ room)) (fun _ _ _ i _ => 8 - (intOf i).toNat)
        case atStart => exact ⟨0, M2, 0, rfl, rfl, rfl, rfl, by omega, Nat.zero_le _, by omega, HM2, N11, fun j hj => absurd hj (Nat.not_lt_zero j)⟩
        case round =>
          clear HM2 N11 M2
          obtain ⟨kk, M, e, rfl, rfl, rfl, rfl, hk8, hkL, hkX, HT, HN, HSZ⟩ := hrel
          by_cases h1 : kk < L
          · by_cases h2 : kk < 8
            · obtain ⟨gs, off, ha, hc⟩ := HROW.out wr HN.out.u (by omega)
              subst ha
              have ck := hc kk h1
              obtain ⟨s, hs⟩ : ∃ s, Ss.getD kk ⟨#[]⟩ = s := ⟨_, rfl⟩
              have HSE := Lib.hid hs
              rw [hs] at ck
              have d1 : decide ((kk : Int) < (L : Int)) = true := decide_eq_true (by omega)
              have d2 : decide ((kk : Int) < 8) = true := decide_eq_true (by omega)
              have i1 : (0 : Int) ≤ (kk : Int) := by omega
              have i2 : (kk : Int) < (L : Int) := by omega
              clear hc hs
              by_cases h3 : s.size ≤ room
              · have d3 : decide (room < s.size) = false := decide_eq_false (by omega)
                have d4 : decide ((room : Int) < (s.size : Int)) = false := decide_eq_false (by omega)
                have HWK := Lib.hid (HWR.out q ch bb pb cc wr M kk (X - kk) (kk + 1) HT.out (by omega) h2 (by rw [HSE.out]; exact h3) HN.out)
                rw [HSE.out] at HWK
                by_cases h5 : X - kk = 1
                · have HT1 := HT.out
                  rw [h5] at HT1
                  obtain ⟨p1, p2⟩ := HT1.tear
                  rw [p1] at HWK
                  have HP2 := Lib.hid p2
                  clear HT1 p1 p2
                  go_wp2_with (go_at_call 13; (with_reducible refine HWK.out.mono ?_); rintro e w12 ⟨rfl, hp⟩; have N12 := Lib.hid hp; clear hp)
                  go_meet
                  exact ⟨L, _, c0, some kk, _, tornQ raws kk (cutMode cm), kk + 1 + 1, rfl, rfl, Nat.le_refl _, fun _ => rfl, (fun W h => by cases h; exact ⟨h1, h2⟩), (fun j hj _ hjW => by
                    have hjk := hjW kk rfl
                    by_cases e : j = kk
                    · subst e; rw [HSE.out]; exact h3
                    · exact HSZ.out j (by omega)), HP2, by omega, right_some raws L kk (cutMode cm) h1, N12⟩
                · obtain ⟨p1, p2⟩ := HT.out.prog h5
                  rw [p1] at HWK
                  have HP2 := Lib.hid p2
                  clear p1 p2
                  go_wp2_with (go_at_call 13; (with_reducible refine HWK.out.mono ?_); rintro e w12 ⟨rfl, hp⟩; have N12 := Lib.hid hp; clear hp)
                  go_roundw
                  case rel => exact ⟨kk + 1, _, 0, rfl, rfl, rfl, by go_num, by omega, by omega, by omega, by rw [show X - (kk + 1) = X - kk - 1 by omega]; exact HP2, N12, fun j hj => by
                    by_cases e : j = kk
                    · subst e; rw [HSE.out]; exact h3
                    · exact HSZ.out j (by omega)⟩
                  case measure => simp [intOf]; omega
              · have d3 : decide (room < s.size) = true := decide_eq_true (by omega)
                have d4 : decide ((room : Int) < (s.size : Int)) = true := decide_eq_true (by omega)
                have hsl : ∀ W, (Instr.sliceAt 22 (.slice (some ⟨gs, off, none⟩) L c0) none (some (.int .i64 (kk : Int))) none).run Tryz.prog W = .ok (.slice (some ⟨gs, off, none⟩) kk c0) W := fun W => by
                  obtain ⟨i0, hi0, _, _, _⟩ := info_parts strInfoT
                  have h9 := Doc.run_slice_lo W 22 9 i0 Tryz.underlying22 hi0 (some ⟨gs, off, none⟩) L c0 kk (by omega) hLc
                  rw [h9, if_neg (by omega)]
                  simp [Addr.add]
                go_wp2_with fail
                go_meet
                exact ⟨kk, _, c0, none, M, _, kk + 1, rfl, rfl, by omega, fun _ => rfl, (fun W h => by cases h), (fun j hj _ _ => HSZ.out j hj), HT.out.on, by omega, right_none raws kk kk (.inl rfl), HN⟩
            · have d1 : decide ((kk : Int) < (L : Int)) = true := decide_eq_true (by omega)
              have d2 : decide ((kk : Int) < 8) = false := decide_eq_false (by omega)
              go_wp2_with fail
              go_meet
              exact ⟨L, a, c0, none, M, _, kk + 1, rfl, rfl, Nat.le_refl _, fun _ => rfl, (fun W h => by cases h), (fun j hj hj8 _ => HSZ.out j (by omega)), HT.out.on, by omega, right_none raws L kk (.inr ⟨by omega, by omega⟩), HN⟩
          · have d1 : decide ((kk : Int) < (L : Int)) = false := decide_eq_false (by omega)
            go_wp2_with fail
            go_meet
            exact ⟨L, a, c0, none, M, _, kk + 1, rfl, rfl, Nat.le_refl _, fun _ => rfl, (fun W h => by cases h), (fun j hj _ _ => HSZ.out j (by omega)), HT.out.on, by omega, right_none raws L kk (.inl (by omega)), HN⟩
      case rest =>
        clear HM2 N11 M2 HWR
        obtain ⟨L', a', c', T, M, P, n', rfl, rfl, hL', ha', HTB, HSZ, HPT, hn', HRI, HN⟩ := hcut
        have HON : Hid (∀ q ch bb pb cc W M, PN w q 2 8 1 k t ch bb pb M cc W → Calls Tryz.prog 16 #[.pointer (some ⟨ch, 0, none⟩)] W fun e w' => e = .returned (.tuple #[]) ∧ PN w q 2 8 1 k t ch bb pb M.onM cc w') := fun q ch bb pb cc W M hW =>
          (on_any ch bb pb M W hW.i.chip).mono fun e w' ⟨he, hc, hu⟩ => ⟨he, hW.upd (hW.i.chipped (upd_own_c hu) hc) (POwn.chip (upd_own_c hu)) rfl⟩
        go_upto_region 23 with (go_at_call 16; (with_reducible refine (HON.out q ch bb pb cc _ M HN.out).mono ?_); rintro e w13 ⟨rfl, hp⟩; have N13 := Lib.hid hp; clear hp)
        generalize M.onM = M3 at *
        clear HN HON
        have HRB : Hid (∀ (M : Ch) n ii q ch bb pb cc W, n < 1000 → ii < 8 → PT M m seed t m P rz n → (P ii).st = 0 → PN w q 2 8 1 k t ch bb pb M cc W → Calls Tryz.prog 17 #[.pointer (some ⟨q, 0, none⟩), .int .i64 0, .int .i64 (ii : Int)] W fun e w' => e = .returned (.tuple #[.agg #[.int .i64 0, .string ⟨#[]⟩, .int .i64 0], .int .i64 0]) ∧ PN w q 2 8 1 k t ch bb pb (M.readM 0) cc w') := fun M n ii q ch bb pb cc W hn hi hM hst hW =>
          (NS.blank0 HG.out HSD.out t1 (Nat.le_refl _) (HTW.out _ (Upd.refl _ _)) hn (by have h9 := hM.ns; rw [HM.out, ← HM1.out]; exact h9) (show 0 < 2 by omega) hi 0 (ii : Int) rfl rfl (by rw [hM.pgs]; exact hst) hW).mono fun e w' ⟨he, hp, _⟩ => ⟨he, hp⟩
        have HRS : Hid (∀ (M : Ch) n ii q ch bb pb cc W, n < 1000 → ii < 8 → PT M m seed t m P rz n → (P ii).st = 2 → PN w q 2 8 1 k t ch bb pb M cc W → Calls Tryz.prog 17 #[.pointer (some ⟨q, 0, none⟩), .int .i64 0, .int .i64 (ii : Int)] W fun e w' => e = .returned (.tuple #[.agg #[.int .i64 2, .string ⟨#[]⟩, .int .i64 0], .int .i64 0]) ∧ PN w q 2 8 1 k t ch bb pb (M.readM 0) cc w') := fun M n ii q ch bb pb cc W hn hi hM hst hW =>
          (NS.bad HG.out HSD.out t1 (Nat.le_refl _) (HTW.out _ (Upd.refl _ _)) hn (by have h9 := hM.ns; rw [HM.out, ← HM1.out]; exact h9) (show 0 < 2 by omega) hi 0 (ii : Int) rfl rfl (by rw [hM.pgs]; exact hst) hW).mono fun e w' ⟨he, hp, _⟩ => ⟨he, hp⟩
        have HRG : Hid (∀ (M : Ch) n ii z q ch bb pb cc W, n < 1000 → ii < 8 → PT M m seed t m P rz n → P ii = ⟨1, z, raws ii⟩ → (Ss.getD ii ⟨#[]⟩).size ≤ room → PN w q 2 8 1 k t ch bb pb M cc W → Calls Tryz.prog 17 #[.pointer (some ⟨q, 0, none⟩), .int .i64 0, .int .i64 (ii : Int)] W fun e w' => ∃ N : Nat, e = .returned (.tuple #[.agg #[.int .i64 1, .string ⟨(padL room (Ss.getD ii ⟨#[]⟩).data.toList).toArray⟩, .int .i64 (N : Int)], .int .i64 0]) ∧ PN w q 2 8 1 k t ch bb pb (M.readM 0) cc w') := fun M n ii z q ch bb pb cc W hn hi hM hst hs hW => by
          have h9 := NS.good HG.out (Ss.getD ii ⟨#[]⟩).data.toList (by rw [HRO.out]; exact hs) HSD.out t1 (Nat.le_refl _) (HTW.out _ (Upd.refl _ _)) hn (by have h9 := hM.ns; rw [HM.out, ← HM1.out]; exact h9) (show 0 < 2 by omega) hi 0 (ii : Int) rfl rfl z (by rw [hM.pgs, hst, ← HRW.out]) hW
          rw [HRO.out] at h9
          exact h9.mono fun e w' ⟨N, he, hp, _⟩ => ⟨N, he, hp⟩
        have HRZ2 : Hid (∀ (M : Ch) n q ch bb pb cc W, n < 1000 → PT M m seed t m P rz n → PN w q 2 8 1 k t ch bb pb M cc W → Calls Tryz.prog 17 #[.pointer (some ⟨q, 0, none⟩), .int .i64 1, .int .i64 0] W fun e w' => ∃ N : Nat, e = .returned (.tuple #[.agg #[.int .i64 1, .string ⟨(padL room [122]).toArray⟩, .int .i64 (N : Int)], .int .i64 0]) ∧ Upd noBlock w w') := fun M n q ch bb pb cc W hn hM hW => by
          have h9 := NS.good HG.out [122] (by rw [HRO.out, HRO2.out]; show 1 ≤ k - 7; omega) HSD.out t1 (Nat.le_refl _) (HTW.out _ (Upd.refl _ _)) hn (by have h9 := hM.ns; rw [HM.out, ← HM1.out]; exact h9) (show 1 < 2 by omega) (show 0 < 8 by omega) 1 0 rfl rfl false (by rw [hM.one, HRZ.out]) hW
          rw [HRO.out] at h9
          exact h9.mono fun e w' ⟨N, he, hp, _⟩ => ⟨N, he, hp.u⟩
        obtain ⟨py, hpy⟩ : ∃ py : ByteArray, ⟨(padL room [122]).toArray⟩ = py := ⟨_, rfl⟩
        have hp1 : 1 ≤ py.size := by
          rw [← hpy]
          show 1 ≤ (padL room [122]).toArray.size
          rw [List.size_toArray, padL_length (by have := HRO2.out; show 1 ≤ room; omega)]
          have := HRO2.out; omega
        have hp2 : (1 : Int) ≤ (py.size : Int) := by omega
        have hp3 : py.extract 0 1 = ⟨#[122]⟩ := by rw [← hpy, extr_take]; rfl
        simp only [hpy] at HRZ2
        clear hpy
        have k0 : ∀ (W : World) (x y z : Value), (W.alloc (.cells #[x, y, z] 40)).cell? ⟨W.heap.size, 0, none⟩ = some x := fun W x y z => cell_of (heap_alloc_new W _) 0
        have k1 : ∀ (W : World) (x y z : Value), (W.alloc (.cells #[x, y, z] 40)).cell? ⟨W.heap.size, 1, none⟩ = some y := fun W x y z => cell_of (heap_alloc_new W _) 1
        have k2 : ∀ (W : World) (x y z : Value), (W.alloc (.cells #[x, y, z] 40)).cell? ⟨W.heap.size, 2, none⟩ = some z := fun W x y z => cell_of (heap_alloc_new W _) 2
        go_wp2
        go_loopw [16] (fun i wr => ∃ (ii : Nat) (M : Ch), ii ≤ 8 ∧ i = .int .i64 (ii : Int) ∧ Hid (PT M m seed t m P rz (n' + ii)) ∧ Hid (PN w q 2 8 1 k t ch bb pb M cc wr)) (fun i _ => 8 - (intOf i).toNat)
        case atStart => exact ⟨0, M3, by omega, rfl, HPT, N13⟩
        case round =>
          clear HPT N13 M3
          obtain ⟨ii, M, hi, rfl, HP, HN⟩ := hrel
          by_cases h0 : ii < 8
          · have di : decide ((ii : Int) < 8) = true := decide_eq_true (by omega)
            have hr := HRI.out ii h0
            cases T with
            | none =>
              simp only [tornV] at *
              by_cases h1 : ii < L'
              · rw [if_pos h1] at hr
                obtain ⟨-, z, hpg⟩ := hr
                have d1 : decide ((L' : Int) ≤ (ii : Int)) = false := decide_eq_false (by omega)
                have d2 : decide (L' ≤ ii) = false := decide_eq_false (by omega)
                have hss := HSZ.out ii h1 h0 (fun W h => by cases h)
                have HRD := Lib.hid (HRG.out M (n' + ii) ii z q ch bb pb cc wr (by omega) h0 HP.out hpg hss HN.out)
                obtain ⟨gs, off, ha, hc⟩ := HROW.out wr HN.out.u (by omega)
                have haa := ha' (by omega)
                subst haa
                subst ha
                obtain ⟨s, hs⟩ : ∃ s, Ss.getD ii ⟨#[]⟩ = s := ⟨_, rfl⟩
                rw [hs] at hss HRD
                obtain ⟨zc, hzc⟩ : ∃ zc, room - s.size = zc := ⟨_, rfl⟩
                obtain ⟨zs, hzs⟩ : ∃ zs : ByteArray, ⟨(List.replicate zc 0).toArray⟩ = zs := ⟨_, rfl⟩
                have hpd : (⟨(padL room s.data.toList).toArray⟩ : ByteArray) = s ++ zs := pad_text s zs room zc hzc hzs
                rw [hpd] at HRD
                have HCT2 : Hid (∀ W, Upd noBlock w W → W.cell? ⟨gs, off + ii, none⟩ = some (.string s)) := fun W hW => by
                  obtain ⟨gs2, off2, ha2, hc2⟩ := HROW.out W hW (by omega)
                  cases ha2
                  rw [hc2 ii (by omega), hs]
                go_upto_region 27 with (go_at_call 17; (with_reducible refine HRD.out.mono ?_); rintro e w14 ⟨N, rfl, hp⟩; have N14 := Lib.hid hp; clear hp)
                obtain ⟨wf, hwf⟩ : ∃ wf, wf = w14.alloc (.cells #[.int .i64 1, .string (s ++ zs), .int .i64 (N : Int)] 40) := ⟨_, rfl⟩
                have F14 : Hid (wf.heap[w14.heap.size]? = some (.cells #[.int .i64 1, .string (s ++ zs), .int .i64 (N : Int)] 40 (0, 0))) := by rw [hwf]; exact heap_alloc_new w14 _
                have NF : Hid (PN w q 2 8 1 k t ch bb pb (M.readM 0) cc wf) := by rw [hwf]; exact N14.out.quiet ((Upd.refl _ _).alloc _)
                rw [← hwf]
                generalize w14.heap.size = f0 at *
                have HK : Hid (∀ W, Hid (Upd noBlock wf W) → W.cell? ⟨f0, 0, none⟩ = some (.int .i64 1) ∧ W.cell? ⟨f0, 1, none⟩ = some (.string (s ++ zs)) ∧ W.cell? ⟨gs, off + ii, none⟩ = some (.string s) ∧ Hid (Upd noBlock wf W)) := fun W hW => by
                  have h9 := (hW.out.block _ (lt_of_block F14.out) id).trans F14.out
                  exact ⟨cell_of h9 0, cell_of h9 1, HCT2.out W (NF.out.u.trans hW.out), hW⟩
                have V0 : Hid (Upd noBlock wf wf) := Upd.refl _ _
                have V1 : Hid (Upd noBlock wf wf.drew) := (Upd.refl _ _).drew
                have HAL : Hid (∀ (W : World) O, Hid (Upd noBlock wf W) → Hid (Upd noBlock wf (W.alloc O))) := fun W O h => h.out.alloc O
                have HDR : Hid (∀ (W : World), Hid (Upd noBlock wf W) → Hid (Upd noBlock wf W.drew)) := fun W h => h.out.drew
                have hrb : room ≤ 25 := by have := HRO2.out; omega
                have hmk := makeP zc (by omega)
                have hcz : ∀ W : World, (convert 43 9 (.slice (some ⟨W.heap.size, 0, none⟩) zc zc)).run Tryz.prog (W.alloc (.cells (madeCells #[.int .u8 0] zc) 5)) = .ok (.string zs) (W.alloc (.cells (madeCells #[.int .u8 0] zc) 5)) := fun W => by
                  rw [← hzs]
                  exact (madeP W zc).text (List.replicate zc 0) (List.length_replicate ..) (fun j h => by rw [List.getElem_replicate]; rfl) zc _ _ Tryz.underlying43 Tryz.underlying5 Tryz.underlying9
                have hcz1 : (convert 43 9 (.slice (some ⟨wf.heap.size, 0, none⟩) zc zc)).run Tryz.prog (wf.drew.alloc (.cells (madeCells #[.int .u8 0] zc) 5)) = .ok (.string zs) (wf.drew.alloc (.cells (madeCells #[.int .u8 0] zc) 5)) := hcz wf.drew
                have hcz2 : (convert 43 9 (.slice (some ⟨wf.heap.size, 0, none⟩) zc zc)).run Tryz.prog (wf.alloc (.cells (madeCells #[.int .u8 0] zc) 5)).drew = .ok (.string zs) (wf.alloc (.cells (madeCells #[.int .u8 0] zc) 5)).drew := by
                  rw [← hzs]
                  exact ((madeP wf zc).grow (Upd.refl _ _).drew).text (List.replicate zc 0) (List.length_replicate ..) (fun j h => by rw [List.getElem_replicate]; rfl) zc _ _ Tryz.underlying43 Tryz.underlying5 Tryz.underlying9
                have hadd : s.size + zs.size ≤ 9223372036854775807 := by
                  have h9 : zs.size = zc := by rw [← hzs]; show (List.replicate zc (0 : UInt8)).toArray.size = zc; rw [List.size_toArray, List.length_replicate]
                  omega
                have wz : IntKind.i64.wrap ((room : Int) - (s.size : Int)) = (zc : Int) := by rw [show (room : Int) - (s.size : Int) = (zc : Int) by omega, IntKind.wrap_i64]; omega
                have i1 : (0 : Int) ≤ (ii : Int) := by omega
                have i2 : (ii : Int) < (L' : Int) := by omega
                have es : ((s ++ zs).toList == (s ++ zs).toList) = true := beq_self_eq_true _
                have HPA : Hid (∀ W, Calls Tryz.prog 18 #[.int .i64 0] W fun e w' => e = .returned (.tuple #[.int .i64 2, .bool false]) ∧ W = w') := fun W => pair_low 0 W (show 0 ≤ 9223372036854775807 by omega) (by decide)
                clear hwf N14 HRD hc hs hzc hpd F14
                go_upto_region 32 with fail
                go_region_held (fun W => W.cell? ⟨f0, 0, none⟩ = some (.int .i64 1) ∧ W.cell? ⟨f0, 1, none⟩ = some (.string (s ++ zs)) ∧ W.cell? ⟨gs, off + ii, none⟩ = some (.string s) ∧ Hid (Upd noBlock wf W))
                  (first | with_reducible exact HK.out _ V0 | with_reducible exact HK.out _ V1 | with_reducible exact HK.out _ (HAL.out _ _ V1) | with_reducible exact HK.out _ (HDR.out _ (HAL.out _ _ V1)) | with_reducible exact HK.out _ (HAL.out _ _ V0) | with_reducible exact HK.out _ (HDR.out _ (HAL.out _ _ V0)))
                  (fail)
                have NG : Hid (PN w q 2 8 1 k t ch bb pb (M.readM 0) cc (wf.alloc (.cells (madeCells #[.int .u8 0] zc) 5)).drew) := NF.out.quiet (HDR.out _ (HAL.out _ _ V0)).out
                generalize (wf.alloc (.cells (madeCells #[.int .u8 0] zc) 5)).drew = wg at *
                have hmx : max (-1 : Int) 0 = 0 := by decide
                clear hcz1 hcz2 hcz hmk HK V0 V1 HAL HDR
                go_wp2_with (go_at_call 18; (with_reducible refine (HPA.out _).mono ?_); rintro e w15 ⟨rfl, rfl⟩)
                go_roundw
                case rel => exact ⟨ii + 1, _, by omega, by go_num, HP.out.read, NG⟩
                case measure => simp [intOf]; omega
              · rw [if_neg h1] at hr
                have d1 : decide ((L' : Int) ≤ (ii : Int)) = true := decide_eq_true (by omega)
                have d2 : decide (L' ≤ ii) = true := decide_eq_true (by omega)
                go_wp2_with (go_at_call 17; (with_reducible refine (HRB.out M (n' + ii) ii q ch bb pb cc _ (by omega) h0 HP.out hr HN.out).mono ?_); rintro e w14 ⟨rfl, hp⟩; have N14 := Lib.hid hp; clear hp)
                go_roundw
                case rel => exact ⟨ii + 1, _, by omega, by go_num, HP.out.read, N14.out.quiet ((Upd.refl _ _).alloc _)⟩
                case measure => simp [intOf]; omega
            | some W =>
              simp only [tornV] at *
              have hT := HTB.out W rfl
              have hpa : ∃ (lo : Nat) (up : Bool), (up = true ↔ 2 ≤ W % 4) ∧ (up = true → lo + 2 = W) ∧ ∀ W', Calls Tryz.prog 18 #[.int .i64 (W : Int)] W' fun e w' => e = .returned (.tuple #[.int .i64 (lo : Int), .bool up]) ∧ W' = w' := by
                by_cases hu : W % 4 < 2
                · exact ⟨W + 2, false, by simp; omega, by simp, fun W' => pair_low W W' (show W ≤ 9223372036854775807 by omega) hu⟩
                · exact ⟨W - 2, true, by simp; omega, by omega, fun W' => pair_up W W' (show W ≤ 9223372036854775807 by omega) hu⟩
              obtain ⟨lo, up, hup, hlo, hpc⟩ := hpa
              have HPA := Lib.hid hpc
              clear hpc
              have dm : max (W : Int) 0 = (W : Int) := by omega
              have dw : decide ((0 : Int) ≤ (W : Int)) = true := decide_eq_true (by omega)
              by_cases h1 : ii < L' ∧ ii ≤ W
              · rw [if_pos h1] at hr
                obtain ⟨h1, h2⟩ := h1
                have d1 : decide ((L' : Int) ≤ (ii : Int)) = false := decide_eq_false (by omega)
                have d2 : decide (L' ≤ ii) = false := decide_eq_false (by omega)
                have d3 : decide ((W : Int) < (ii : Int)) = false := decide_eq_false (by omega)
                have d4 : decide (W < ii) = false := decide_eq_false (by omega)
                rcases hr with ⟨z, hpg⟩ | ⟨hst, hwh⟩ | ⟨hst, hwh⟩
                · have hss := HSZ.out ii h1 h0 (fun W' h => by cases h; exact h2)
                  have HRD := Lib.hid (HRG.out M (n' + ii) ii z q ch bb pb cc wr (by omega) h0 HP.out hpg hss HN.out)
                  obtain ⟨gs, off, ha, hc⟩ := HROW.out wr HN.out.u (by omega)
                  have haa := ha' (by omega)
                  subst haa
                  subst ha
                  obtain ⟨s, hs⟩ : ∃ s, Ss.getD ii ⟨#[]⟩ = s := ⟨_, rfl⟩
                  rw [hs] at hss HRD
                  obtain ⟨zc, hzc⟩ : ∃ zc, room - s.size = zc := ⟨_, rfl⟩
                  obtain ⟨zs, hzs⟩ : ∃ zs : ByteArray, ⟨(List.replicate zc 0).toArray⟩ = zs := ⟨_, rfl⟩
                  have hpd : (⟨(padL room s.data.toList).toArray⟩ : ByteArray) = s ++ zs := pad_text s zs room zc hzc hzs
                  rw [hpd] at HRD
                  have HCT2 : Hid (∀ W, Upd noBlock w W → W.cell? ⟨gs, off + ii, none⟩ = some (.string s)) := fun W hW => by
                    obtain ⟨gs2, off2, ha2, hc2⟩ := HROW.out W hW (by omega)
                    cases ha2
                    rw [hc2 ii (by omega), hs]
                  go_upto_region 27 with (go_at_call 17; (with_reducible refine HRD.out.mono ?_); rintro e w14 ⟨N, rfl, hp⟩; have N14 := Lib.hid hp; clear hp)
                  obtain ⟨wf, hwf⟩ : ∃ wf, wf = w14.alloc (.cells #[.int .i64 1, .string (s ++ zs), .int .i64 (N : Int)] 40) := ⟨_, rfl⟩
                  have F14 : Hid (wf.heap[w14.heap.size]? = some (.cells #[.int .i64 1, .string (s ++ zs), .int .i64 (N : Int)] 40 (0, 0))) := by rw [hwf]; exact heap_alloc_new w14 _
                  have NF : Hid (PN w q 2 8 1 k t ch bb pb (M.readM 0) cc wf) := by rw [hwf]; exact N14.out.quiet ((Upd.refl _ _).alloc _)
                  rw [← hwf]
                  generalize w14.heap.size = f0 at *
                  have HK : Hid (∀ W, Hid (Upd noBlock wf W) → W.cell? ⟨f0, 0, none⟩ = some (.int .i64 1) ∧ W.cell? ⟨f0, 1, none⟩ = some (.string (s ++ zs)) ∧ W.cell? ⟨gs, off + ii, none⟩ = some (.string s) ∧ Hid (Upd noBlock wf W)) := fun W hW => by
                    have h9 := (hW.out.block _ (lt_of_block F14.out) id).trans F14.out
                    exact ⟨cell_of h9 0, cell_of h9 1, HCT2.out W (NF.out.u.trans hW.out), hW⟩
                  have V0 : Hid (Upd noBlock wf wf) := Upd.refl _ _
                  have V1 : Hid (Upd noBlock wf wf.drew) := (Upd.refl _ _).drew
                  have HAL : Hid (∀ (W : World) O, Hid (Upd noBlock wf W) → Hid (Upd noBlock wf (W.alloc O))) := fun W O h => h.out.alloc O
                  have HDR : Hid (∀ (W : World), Hid (Upd noBlock wf W) → Hid (Upd noBlock wf W.drew)) := fun W h => h.out.drew
                  have hrb : room ≤ 25 := by have := HRO2.out; omega
                  have hmk := makeP zc (by omega)
                  have hcz : ∀ W : World, (convert 43 9 (.slice (some ⟨W.heap.size, 0, none⟩) zc zc)).run Tryz.prog (W.alloc (.cells (madeCells #[.int .u8 0] zc) 5)) = .ok (.string zs) (W.alloc (.cells (madeCells #[.int .u8 0] zc) 5)) := fun W => by
                    rw [← hzs]
                    exact (madeP W zc).text (List.replicate zc 0) (List.length_replicate ..) (fun j h => by rw [List.getElem_replicate]; rfl) zc _ _ Tryz.underlying43 Tryz.underlying5 Tryz.underlying9
                  have hcz1 : (convert 43 9 (.slice (some ⟨wf.heap.size, 0, none⟩) zc zc)).run Tryz.prog (wf.drew.alloc (.cells (madeCells #[.int .u8 0] zc) 5)) = .ok (.string zs) (wf.drew.alloc (.cells (madeCells #[.int .u8 0] zc) 5)) := hcz wf.drew
                  have hcz2 : (convert 43 9 (.slice (some ⟨wf.heap.size, 0, none⟩) zc zc)).run Tryz.prog (wf.alloc (.cells (madeCells #[.int .u8 0] zc) 5)).drew = .ok (.string zs) (wf.alloc (.cells (madeCells #[.int .u8 0] zc) 5)).drew := by
                    rw [← hzs]
                    exact ((madeP wf zc).grow (Upd.refl _ _).drew).text (List.replicate zc 0) (List.length_replicate ..) (fun j h => by rw [List.getElem_replicate]; rfl) zc _ _ Tryz.underlying43 Tryz.underlying5 Tryz.underlying9
                  have hadd : s.size + zs.size ≤ 9223372036854775807 := by
                    have h9 : zs.size = zc := by rw [← hzs]; show (List.replicate zc (0 : UInt8)).toArray.size = zc; rw [List.size_toArray, List.length_replicate]
                    omega
                  have wz : IntKind.i64.wrap ((room : Int) - (s.size : Int)) = (zc : Int) := by rw [show (room : Int) - (s.size : Int) = (zc : Int) by omega, IntKind.wrap_i64]; omega
                  have i1 : (0 : Int) ≤ (ii : Int) := by omega
                  have i2 : (ii : Int) < (L' : Int) := by omega
                  have es : ((s ++ zs).toList == (s ++ zs).toList) = true := beq_self_eq_true _
                  clear hwf N14 HRD hc hs hzc hpd F14
                  go_upto_region 32 with fail
                  go_region_held (fun W => W.cell? ⟨f0, 0, none⟩ = some (.int .i64 1) ∧ W.cell? ⟨f0, 1, none⟩ = some (.string (s ++ zs)) ∧ W.cell? ⟨gs, off + ii, none⟩ = some (.string s) ∧ Hid (Upd noBlock wf W))
                    (first | with_reducible exact HK.out _ V0 | with_reducible exact HK.out _ V1 | with_reducible exact HK.out _ (HAL.out _ _ V1) | with_reducible exact HK.out _ (HDR.out _ (HAL.out _ _ V1)) | with_reducible exact HK.out _ (HAL.out _ _ V0) | with_reducible exact HK.out _ (HDR.out _ (HAL.out _ _ V0)))
                    (fail)
                  have NG : Hid (PN w q 2 8 1 k t ch bb pb (M.readM 0) cc (wf.alloc (.cells (madeCells #[.int .u8 0] zc) 5)).drew) := NF.out.quiet (HDR.out _ (HAL.out _ _ V0)).out
                  generalize (wf.alloc (.cells (madeCells #[.int .u8 0] zc) 5)).drew = wg at *
                  clear hcz1 hcz2 hcz hmk HK V0 V1 HAL HDR
                  go_wp2_with (go_at_call 18; (with_reducible refine (HPA.out _).mono ?_); rintro e w15 ⟨rfl, rfl⟩)
                  go_roundw
                  case rel => exact ⟨ii + 1, _, by omega, by go_num, HP.out.read, NG⟩
                  case measure => simp [intOf]; omega
                · go_upto_region 27 with (go_at_call 17; (with_reducible refine (HRS.out M (n' + ii) ii q ch bb pb cc _ (by omega) h0 HP.out hst HN.out).mono ?_); rintro e w14 ⟨rfl, hp⟩; have N14 := Lib.hid hp; clear hp)
                  obtain ⟨wf, hwf⟩ : ∃ wf, wf = w14.alloc (.cells #[.int .i64 2, .string ⟨#[]⟩, .int .i64 0] 40) := ⟨_, rfl⟩
                  have F14 : wf.heap[w14.heap.size]? = some (.cells #[.int .i64 2, .string ⟨#[]⟩, .int .i64 0] 40 (0, 0)) := by rw [hwf]; exact heap_alloc_new w14 _
                  have NF : Hid (PN w q 2 8 1 k t ch bb pb (M.readM 0) cc wf) := by rw [hwf]; exact N14.out.quiet ((Upd.refl _ _).alloc _)
                  rw [← hwf]
                  generalize w14.heap.size = f0 at *
                  have x0 : wf.cell? ⟨f0, 0, none⟩ = some (.int .i64 2) := cell_of F14 0
                  have X0 := Lib.hid F14
                  clear hwf N14 F14
                  go_upto_region 32 with fail
                  go_quiet (fail)
                  have NG : Hid (PN w q 2 8 1 k t ch bb pb (M.readM 0) cc (wf.drewN nq)) := NF.out.quiet ((Upd.refl _ _).drewN nq)
                  have x1 : (wf.drewN nq).cell? ⟨f0, 0, none⟩ = some (.int .i64 2) := cell_of (((Upd.refl noBlock wf).drewN nq).block f0 (lt_of_block X0.out) id |>.trans X0.out) 0
                  clear x0 X0 NF
                  generalize wf.drewN nq = wg at *
                  rcases hwh with hw | ⟨hw4, hw2⟩
                  · have ew : ((ii : Int) == (W : Int)) = true := beq_iff_eq.2 (by omega)
                    go_wp2_with (go_at_call 18; (with_reducible refine (HPA.out _).mono ?_); rintro e w15 ⟨rfl, rfl⟩)
                    go_roundw
                    case rel => exact ⟨ii + 1, _, by omega, by go_num, HP.out.read, NG⟩
                    case measure => simp [intOf]; omega
                  · have hu : up = true := hup.2 hw4
                    subst hu
                    have hl := hlo rfl
                    have ew : ((ii : Int) == (W : Int)) = false := beq_eq_false_iff_ne.2 (by omega)
                    have el : ((ii : Int) == (lo : Int)) = true := beq_iff_eq.2 (by omega)
                    clear hup hlo hl
                    go_wp2_with (go_at_call 18; (with_reducible refine (HPA.out _).mono ?_); rintro e w15 ⟨rfl, rfl⟩)
                    go_roundw
                    case rel => exact ⟨ii + 1, _, by omega, by go_num, HP.out.read, NG⟩
                    case measure => simp [intOf]; omega
                · have HRD := Lib.hid (HRB.out M (n' + ii) ii q ch bb pb cc wr (by omega) h0 HP.out hst HN.out)
                  have HWH := Lib.hid hwh
                  clear hwh
                  go_upto_region 27 with (go_at_call 17; (with_reducible refine HRD.out.mono ?_); rintro e w14 ⟨rfl, hp⟩; have N14 := Lib.hid hp; clear hp)
                  obtain ⟨wf, hwf⟩ : ∃ wf, wf = w14.alloc (.cells #[.int .i64 0, .string ⟨#[]⟩, .int .i64 0] 40) := ⟨_, rfl⟩
                  have F14 : wf.heap[w14.heap.size]? = some (.cells #[.int .i64 0, .string ⟨#[]⟩, .int .i64 0] 40 (0, 0)) := by rw [hwf]; exact heap_alloc_new w14 _
                  have NF : Hid (PN w q 2 8 1 k t ch bb pb (M.readM 0) cc wf) := by rw [hwf]; exact N14.out.quiet ((Upd.refl _ _).alloc _)
                  rw [← hwf]
                  generalize w14.heap.size = f0 at *
                  have x0 : wf.cell? ⟨f0, 0, none⟩ = some (.int .i64 0) := cell_of F14 0
                  have X0 := Lib.hid F14
                  clear hwf N14 F14
                  go_upto_region 32 with fail
                  go_quiet (fail)
                  have NG : Hid (PN w q 2 8 1 k t ch bb pb (M.readM 0) cc (wf.drewN nq)) := NF.out.quiet ((Upd.refl _ _).drewN nq)
                  have x1 : (wf.drewN nq).cell? ⟨f0, 0, none⟩ = some (.int .i64 0) := cell_of (((Upd.refl noBlock wf).drewN nq).block f0 (lt_of_block X0.out) id |>.trans X0.out) 0
                  clear x0 X0 NF
                  generalize wf.drewN nq = wg at *
                  have ew : ((ii : Int) == (W : Int)) = true := beq_iff_eq.2 (by have := HWH.out; omega)
                  go_wp2_with (go_at_call 18; (with_reducible refine (HPA.out _).mono ?_); rintro e w15 ⟨rfl, rfl⟩)
                  go_roundw
                  case rel => exact ⟨ii + 1, _, by omega, by go_num, HP.out.read, NG⟩
                  case measure => simp [intOf]; omega
              · rw [if_neg h1] at hr
                by_cases h2 : L' ≤ ii
                · have d1 : decide ((L' : Int) ≤ (ii : Int)) = true := decide_eq_true (by omega)
                  have d2 : decide (L' ≤ ii) = true := decide_eq_true (by omega)
                  go_wp2_with (go_at_call 17; (with_reducible refine (HRB.out M (n' + ii) ii q ch bb pb cc _ (by omega) h0 HP.out hr HN.out).mono ?_); rintro e w14 ⟨rfl, hp⟩; have N14 := Lib.hid hp; clear hp)
                  go_roundw
                  case rel => exact ⟨ii + 1, _, by omega, by go_num, HP.out.read, N14.out.quiet ((Upd.refl _ _).alloc _)⟩
                  case measure => simp [intOf]; omega
                · have d1 : decide ((L' : Int) ≤ (ii : Int)) = false := decide_eq_false (by omega)
                  have d2 : decide (L' ≤ ii) = false := decide_eq_false (by omega)
                  have d3 : decide ((W : Int) < (ii : Int)) = true := decide_eq_true (by omega)
                  have d4 : decide (W < ii) = true := decide_eq_true (by omega)
                  go_wp2_with (go_at_call 17; (with_reducible refine (HRB.out M (n' + ii) ii q ch bb pb cc _ (by omega) h0 HP.out hr HN.out).mono ?_); rintro e w14 ⟨rfl, hp⟩; have N14 := Lib.hid hp; clear hp)
                  go_roundw
                  case rel => exact ⟨ii + 1, _, by omega, by go_num, HP.out.read, N14.out.quiet ((Upd.refl _ _).alloc _)⟩
                  case measure => simp [intOf]; omega
          · have hi8 : ii = 8 := by omega
            subst hi8
            go_wp2_with (go_at_call 17; (with_reducible refine (HRZ2.out M (n' + 8) q ch bb pb cc _ (by omega) HP.out HN.out).mono ?_); rintro e w14 ⟨N, rfl, hu⟩; have U14 := Lib.hid hu; clear hu)
            go_ret
            exact ⟨rfl, U14.out.alloc _⟩
end Go.Proofs.YtjcmfaadoealgaaGreatDoor
