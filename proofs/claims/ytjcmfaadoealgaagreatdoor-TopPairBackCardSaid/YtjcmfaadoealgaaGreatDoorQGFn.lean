import Derived.Test.YtjcmfaadoealgaaGreatDoorQGFe
import Derived.Test.YtjcmfaadoealgaaGreatDoorQGCd
import Derived.WideKeyPair
import Derived.SizedLaws
import Derived.Test.YtjcmfaadoealgaaGreatDoorQSt
import Derived.Test.YtjcmfaadoealgaaGreatDoorQGNC
import Derived.StillTailTactics
import Derived.Test.YtjcmfaadoealgaaGreatDoorQGBy
import Derived.Deep.RegionHeld3
import Derived.Test.YtjcmfaadoealgaaGreatDoorQTr
/- PageSizes. Made by tools/gen_pagesizes.py. -/
namespace Go.Proofs.YtjcmfaadoealgaaGreatDoor
open F
open Go.RowKit Pm Cm
set_option linter.unusedVariables false
attribute [local irreducible] openL decUp Lib.onesCount parT sealed

end Go.Proofs.YtjcmfaadoealgaaGreatDoor

/- PageWrites. Made by tools/gen_pagewrites.py. -/
namespace Go.Proofs.YtjcmfaadoealgaaGreatDoor
open F
open Go.RowKit Pm Cm
set_option linter.unusedVariables false
attribute [local irreducible] openL decUp Lib.onesCount parT sealed

theorem progM_nb (M : Ch) (i j : Nat) (l : List UInt8) : (M.progM i j l).nb = M.nb := by
  unfold Ch.progM
  split
  · rfl
  · split
    · rfl
    · split
      · split <;> rfl
      · rfl
end Go.Proofs.YtjcmfaadoealgaaGreatDoor

/- PageApart. Made by tools/gen_pageapart.py. -/
namespace Go.Proofs.YtjcmfaadoealgaaGreatDoor
open F
open Go.RowKit Pm Cm
set_option linter.unusedVariables false
attribute [local irreducible] openL decUp Lib.onesCount parT sealed

theorem readM_pg (M : Ch) (i j q : Nat) : ((M.readM i).bk j).pg q = (M.bk j).pg q := by
  unfold Ch.readM Ch.setBk
  dsimp only
  split
  · rename_i e; rw [e]
  · rfl
/-- what stands in a block of Found stays through a pager's calls -/
def KF (W W' : World) : Prop := ∀ (i : Nat) (a : Array Value), W.heap[i]? = some (.cells a 40 (0, 0)) → W'.heap[i]? = some (.cells a 40 (0, 0))
theorem PgrIn.kf {w w' : World} {q : Nat} {b p : Int} {c k t : Nat} {ch bb : Nat} {pb : Nat → Nat} {M : Ch} {cc : Nat} (h : PgrIn w q b p c k t ch bb pb M cc) (hu : Upd (POwn ch bb pb M.nb cc) w w') : KF w w' := fun i a hg => by
  obtain ⟨x, hx⟩ := h.code.block
  refine (hu.block i (lt_of_block hg) (fun e => ?_)).trans hg
  rcases e with (e1 | e1 | ⟨b, hb, e1⟩) | e1
  · exact apart hg h.chip.top (by decide) e1
  · obtain ⟨z, hz⟩ := row_block h.chip.blks
    exact apart hg hz (by decide) e1
  · obtain ⟨z, hz⟩ := (h.chip.pgs b hb).block
    exact apart hg hz (by decide) e1
  · exact apart hg hx (by decide) e1
end Go.Proofs.YtjcmfaadoealgaaGreatDoor

/- Read where bits turn; the chip of PageReads. -/
namespace Go.Proofs.YtjcmfaadoealgaaGreatDoor
open F
open Go.RowKit Pm Cm
set_option linter.unusedVariables false
attribute [local irreducible] openL decUp Lib.onesCount parT sealed

/-- Read at a place that is there, the power on, bits turning -/
theorem pread_noise (q : Nat) (b p : Int) (c k t : Nat) (ch bb : Nat) (pb : Nat → Nat) (M : Ch) (cc : Nat) (x y : Int) (i j n seed most : Nat) (hx : x = (i : Int)) (hy : y = (j : Int)) (w : World) (hG : GoodG b p c k t) (h : PgrIn w q b p c k t ch bb pb M cc)
    (hT : ∀ W, Upd (POwn ch bb pb M.nb cc) w W → Tab W) (hF : M.Fit n) (hn : n < 2305843009213693952) (hi : i < M.nb) (hj : j < M.np) (hz : M.sz = rawN t k c) (ho : M.off = false)
    (hse : M.seed = (seed : Int)) (hse2 : seed < 18446744073709551616) (hmo : M.most = (most : Int)) (hm1 : 1 ≤ most) (hm2 : most ≤ 64) (hpc : M.piece = ((k + (13 * t + 7) / 8 : Nat) : Int)) (hst : ((M.bk i).pg j).st ≤ 2) (hd : (((M.bk i).pg j).show M.sz).length = M.sz) :
    Calls Tryz.prog 17 #[.pointer (some ⟨q, 0, none⟩), .int .i64 x, .int .i64 y] w fun e w' => e = .returned (.tuple #[(foundL t k c (pieceL (noisy most (k + (13 * t + 7) / 8) (placeN seed ((M.bk i).rd + 1) i j) (((M.bk i).pg j).show M.sz)) (k + (13 * t + 7) / 8))).val, .int .i64 0]) ∧ PgrIn w' q b p c k t ch bb pb (M.readM i) cc ∧ Upd (POwn ch bb pb M.nb cc) w w' := by
  subst hx hy
  have hr := rawN_pos hG
  have k1 := hG.k1
  have k2 := hG.k2
  have t2 := hG.t2
  refine pread_gen q b p c k t ch bb pb M (M.readM i) cc (i : Int) (j : Int) ⟨(noisy most (k + (13 * t + 7) / 8) (placeN seed ((M.bk i).rd + 1) i j) (((M.bk i).pg j).show M.sz)).toArray⟩ w hG h ?_ hT rfl fun W hW => ?_
  · show (noisy most (k + (13 * t + 7) / 8) (placeN seed ((M.bk i).rd + 1) i j) (((M.bk i).pg j).show M.sz)).toArray.size = _
    rw [List.size_toArray, noisy_len, hd, hz]
  · exact read_noise ch bb pb M i j n seed most (k + (13 * t + 7) / 8) (((M.bk i).pg j).show M.sz) W hW hF hn hi hj ho hse hse2 hmo hm1 hm2 hpc (by omega) (by omega) hd (by omega) (fun w1 h1 => shown_any i j _ hj (by omega) hW.sz hst w1 h1)
/-- PageReads' chip -/
structure NR (M : Ch) (nb np sz seed most s : Nat) (x1 : Pg) (n : Nat) : Prop where
  nb : M.nb = nb
  np : M.np = np
  sz : M.sz = sz
  off : M.off = false
  seed : M.seed = (seed : Int)
  most : M.most = (most : Int)
  piece : M.piece = (s : Int)
  fit : M.Fit n
  pg1 : (M.bk 0).pg 1 = x1
  pg2 : ((M.bk 0).pg 2).st = 0
theorem NR.read {M : Ch} {nb np sz seed most s : Nat} {x1 : Pg} {n : Nat} (h : NR M nb np sz seed most s x1 n) : NR (M.readM 0) nb np sz seed most s x1 (n + 1) :=
  ⟨h.nb, h.np, h.sz, h.off, h.seed, h.most, h.piece, h.fit.read 0, by rw [readM_pg]; exact h.pg1, by rw [readM_pg]; exact h.pg2⟩
theorem NR.first (nb np sz seed most s : Nat) (raw : List UInt8) (si mi pi : Int) (h1 : IntKind.u64.wrap si = (seed : Int)) (h2 : mi = (most : Int)) (h3 : most ≤ 64) (h4 : pi = (s : Int)) : NR ((m1C nb np sz 0 1 raw).noiseM si mi pi) nb np sz seed most s ⟨1, false, raw⟩ 1 := by
  have hf := (m1_fit nb np sz 0 1 raw).noise si mi pi
  obtain ⟨a1, a2, a3, a4, a5⟩ := m1_shape nb np sz 0 1 raw
  refine ⟨a1, a2, a3, a4, h1, ?_, h4, hf, m1_pg nb np sz 0 1 raw, ?_⟩
  · show min mi 64 = _
    omega
  · show (((m1C nb np sz 0 1 raw).bk 0).pg 2).st = 0
    rw [m1_eq]; rfl
theorem NR.spoil {M : Ch} {nb np sz seed most s : Nat} {raw : List UInt8} {n : Nat} (h : NR M nb np sz seed most s ⟨1, false, raw⟩ n) : NR (M.spoilM 0 1) nb np sz seed most s ⟨2, false, []⟩ n := by
  refine ⟨h.nb, h.np, h.sz, h.off, h.seed, h.most, h.piece, h.fit.spoil 0 1, ?_, h.pg2⟩
  show ((M.bk 0).pg 1).spoilW = _
  rw [h.pg1]; rfl
end Go.Proofs.YtjcmfaadoealgaaGreatDoor

/- TopTorn's chip: what stands in it, and what is read from it. -/
namespace Go.Proofs.YtjcmfaadoealgaaGreatDoor
open F
open Go.RowKit Pm Cm
set_option linter.unusedVariables false
attribute [local irreducible] openL decUp empUp Lib.onesCount parT sealed

/-- a chip whose power is on and whose bits turn -/
structure NS (M : Ch) (nb np sz seed most s n : Nat) : Prop where
  nb : M.nb = nb
  np : M.np = np
  sz : M.sz = sz
  off : M.off = false
  seed : M.seed = (seed : Int)
  most : M.most = (most : Int)
  piece : M.piece = (s : Int)
  fit : M.Fit n
theorem NS.read {M : Ch} {nb np sz seed most s n : Nat} (h : NS M nb np sz seed most s n) (b : Nat) : NS (M.readM b) nb np sz seed most s (n + 1) :=
  ⟨h.nb, h.np, h.sz, h.off, h.seed, h.most, h.piece, h.fit.read b⟩
section
variable {t k c : Nat} {b p : Int} {nb np seed m n q ch bb cc i j : Nat} {pb : Nat → Nat} {M : Ch} {wx W : World}
theorem NS.bad (hG : GoodG b p c k t) (hs : seed < 18446744073709551616) (hm1 : 1 ≤ m) (hmt : m ≤ t) (hTx : Tab wx) (hn : n < 1000) (hM : NS M nb np (rawN t k c) seed m (k + (13 * t + 7) / 8) n) (hi : i < nb) (hj : j < np) (x y : Int) (hx : x = (i : Int)) (hy : y = (j : Int))
    (hpg : ((M.bk i).pg j).st = 2) (hW : PN wx q b p c k t ch bb pb M cc W) :
    Calls Tryz.prog 17 #[.pointer (some ⟨q, 0, none⟩), .int .i64 x, .int .i64 y] W fun e w' => e = .returned (.tuple #[.agg #[.int .i64 2, .string ⟨#[]⟩, .int .i64 0], .int .i64 0]) ∧ PN wx q b p c k t ch bb pb (M.readM i) cc w' ∧ KF W w' := by
  have hsh : ((M.bk i).pg j).show M.sz = zzL (c * (k + (13 * t + 7) / 8)) := by unfold Pg.show; rw [if_neg (by omega), if_neg (by omega), hM.sz]; rfl
  have h9 := pread_noise q b p c k t ch bb pb M cc x y i j n seed m hx hy W hG hW.i (hW.tab hTx) hM.fit (by omega) (by rw [hM.nb]; exact hi) (by rw [hM.np]; exact hj) hM.sz hM.off hM.seed hs hM.most hm1 (by have := hG.t2; omega) hM.piece (by rw [hpg]; omega) (by rw [hsh, hM.sz]; exact List.length_replicate ..)
  rw [hsh, found_spoilt hG m _ hm1 hmt] at h9
  exact h9.mono fun e w' ⟨he, hi, hu⟩ => ⟨he, hW.upd hi hu rfl, hW.i.kf hu⟩
end
/-- block 0 is being written, a cut ahead -/
structure TT (M : Ch) (sz seed most s mode : Nat) (raws : Nat → List UInt8) (rz : List UInt8) (k left n : Nat) : Prop where
  ns : NS M 2 8 sz seed most s n
  left : M.left = left
  mode : M.mode = mode
  worn : ∀ b, (M.bk b).worn = false
  blank : ∀ p, k ≤ p → (M.bk 0).pg p = pg0
  done : ∀ p, p < k → (M.bk 0).pg p = ⟨1, false, raws p⟩
  one : (M.bk 1).pg 0 = ⟨1, false, rz⟩
/-- the pages of block 0 are P -/
structure PT (M : Ch) (sz seed most s : Nat) (P : Nat → Pg) (rz : List UInt8) (n : Nat) : Prop where
  ns : NS M 2 8 sz seed most s n
  pgs : ∀ p, (M.bk 0).pg p = P p
  one : (M.bk 1).pg 0 = ⟨1, false, rz⟩
theorem PT.read {M : Ch} {sz seed most s : Nat} {P : Nat → Pg} {rz : List UInt8} {n : Nat} (h : PT M sz seed most s P rz n) : PT (M.readM 0) sz seed most s P rz (n + 1) :=
  ⟨h.ns.read 0, fun p => by rw [readM_pg]; exact h.pgs p, by rw [readM_pg]; exact h.one⟩
theorem TT.first (sz seed most s : Nat) (raws : Nat → List UInt8) (rz : List UInt8) (si mi pi cn cm : Int) (h1 : IntKind.u64.wrap si = (seed : Int)) (h2 : mi = (most : Int)) (h3 : most ≤ 64) (h4 : pi = (s : Int)) (h5 : 1 ≤ cn) (h6 : cn ≤ 9) :
    TT (((m1C 2 8 sz 1 0 rz).noiseM si mi pi).cutM cn cm) sz seed most s (cutMode cm) raws rz 0 cn.toNat 1 := by
  have hf := ((m1_fit 2 8 sz 1 0 rz).noise si mi pi).cut cn cm (by omega)
  obtain ⟨a1, a2, a3, a4, a5⟩ := m1_shape 2 8 sz 1 0 rz
  refine ⟨⟨a1, a2, a3, a4, h1, ?_, h4, hf⟩, ?_, rfl, fun b => ?_, fun p _ => ?_, fun p hp => absurd hp (Nat.not_lt_zero p), m1_pg 2 8 sz 1 0 rz⟩
  · show min mi 64 = _
    omega
  · show (max cn 1).toNat = cn.toNat
    omega
  · show ((m1C 2 8 sz 1 0 rz).bk b).worn = false
    rw [m1_eq]
    show (if b = 1 then _ else newBk).worn = false
    by_cases e : b = 1
    · rw [if_pos e]; rfl
    · rw [if_neg e]; rfl
  · show ((m1C 2 8 sz 1 0 rz).bk 0).pg p = pg0
    rw [m1_eq]; rfl
section
variable {M : Ch} {sz seed most s mode : Nat} {raws : Nat → List UInt8} {rz : List UInt8} {k left n : Nat}
theorem TT.blankW (h : TT M sz seed most s mode raws rz k left n) : blankFrom (M.bk 0) M.np k = true := blank_yes fun r hr _ => by rw [h.blank r hr]; rfl
theorem TT.prog (h : TT M sz seed most s mode raws rz k left n) (hl : ¬ left = 1) : M.progE 0 k = 0 ∧ TT (M.progM 0 k (raws k)) sz seed most s mode raws rz (k + 1) (left - 1) (n + 1) := by
  have ht : M.torn = false := by unfold Ch.torn; rw [h.left]; exact beq_eq_false_iff_ne.2 hl
  have hm : M.progM 0 k (raws k) = M.changed.setBk 0 ((M.bk 0).setPg k (((M.bk 0).pg k).write (raws k))) := by
    unfold Ch.progM; simp [h.ns.off, h.worn 0, ht, h.blankW]
  have hf := h.ns.fit.prog 0 k (raws k)
  refine ⟨by unfold Ch.progE; simp [h.ns.off, h.worn 0, ht, h.blankW], ?_⟩
  rw [hm] at hf ⊢
  refine ⟨⟨h.ns.nb, h.ns.np, h.ns.sz, ?_, h.ns.seed, h.ns.most, h.ns.piece, hf⟩, ?_, h.mode, fun b => ?_, fun p hp => ?_, fun p hp => ?_, h.one⟩
  · show (M.left == 1) = false; rw [h.left]; exact beq_eq_false_iff_ne.2 hl
  · show M.left - 1 = left - 1; rw [h.left]
  · show (if b = 0 then _ else M.bk b).worn = false
    by_cases e : b = 0
    · rw [if_pos e]; exact h.worn 0
    · rw [if_neg e]; exact h.worn b
  · show (if p = k then _ else (M.bk 0).pg p) = _
    rw [if_neg (by omega)]; exact h.blank p (by omega)
  · show (if p = k then _ else (M.bk 0).pg p) = _
    by_cases e : p = k
    · rw [if_pos e, h.blank k (Nat.le_refl _), e]; rfl
    · rw [if_neg e]; exact h.done p (by omega)
theorem TT.on (h : TT M sz seed most s mode raws rz k left n) : PT M.onM sz seed most s (fun p => if p < k then ⟨1, false, raws p⟩ else pg0) rz n := by
  refine ⟨⟨h.ns.nb, h.ns.np, h.ns.sz, rfl, h.ns.seed, h.ns.most, h.ns.piece, h.ns.fit.on⟩, fun p => ?_, h.one⟩
  show (M.bk 0).pg p = _
  by_cases e : p < k
  · rw [if_pos e]; exact h.done p e
  · rw [if_neg e]; exact h.blank p (by omega)
end
/-- behind the torn Program, the power on again -/
def tornQ (raws : Nat → List UInt8) (W m : Nat) (p : Nat) : Pg := if p = W then (pg0.tear (raws W) m).mark else if 2 ≤ W % 4 ∧ 4 ≤ m ∧ p + 2 = W then ⟨2, false, []⟩ else if p < W then ⟨1, false, raws p⟩ else pg0
theorem TT.tear {M : Ch} {sz seed most s mode : Nat} {raws : Nat → List UInt8} {rz : List UInt8} {k n : Nat} (h : TT M sz seed most s mode raws rz k 1 n) : M.progE 0 k = 20 ∧ PT (M.progM 0 k (raws k)).onM sz seed most s (tornQ raws k mode) rz (n + 1) := by
  have ht : M.torn = true := by unfold Ch.torn; rw [h.left]; rfl
  have hm : M.progM 0 k (raws k) = M.changed.setBk 0 (tearP (M.bk 0) k (raws k) mode) := by
    unfold Ch.progM; simp [h.ns.off, h.worn 0, ht, h.blankW, h.mode]
  have hf := (h.ns.fit.prog 0 k (raws k)).on
  refine ⟨by unfold Ch.progE; simp [h.ns.off, h.worn 0, ht, h.blankW], ?_⟩
  rw [hm] at hf ⊢
  refine ⟨⟨h.ns.nb, h.ns.np, h.ns.sz, rfl, h.ns.seed, h.ns.most, h.ns.piece, hf⟩, fun p => ?_, h.one⟩
  show (tearP (M.bk 0) k (raws k) mode).pg p = _
  have hbl := h.blank k (Nat.le_refl _)
  unfold tearP tornQ
  by_cases e2 : 2 ≤ k % 4 ∧ 4 ≤ mode
  · rw [if_pos e2]
    simp only [Bk.setPg]
    by_cases e : p = k
    · rw [if_neg (show ¬ p = k - 2 by omega), if_pos e, if_pos e, hbl]
    · by_cases e3 : p = k - 2
      · rw [if_pos e3, if_neg e, if_pos ⟨e2.1, e2.2, by omega⟩, h.done (k - 2) (by omega)]; rfl
      · rw [if_neg e3, if_neg e, if_neg e, if_neg e, if_neg (by omega)]
        by_cases e4 : p < k
        · rw [if_pos e4]; exact h.done p e4
        · rw [if_neg e4]; exact h.blank p (by omega)
  · rw [if_neg e2]
    simp only [Bk.setPg]
    by_cases e : p = k
    · rw [if_pos e, if_pos e, hbl]
    · rw [if_neg e, if_neg e, if_neg e, if_neg (by omega)]
      by_cases e4 : p < k
      · rw [if_pos e4]; exact h.done p e4
      · rw [if_neg e4]; exact h.blank p (by omega)
end Go.Proofs.YtjcmfaadoealgaaGreatDoor

/- TopTorn: the small geometry. -/
namespace Go.Proofs.YtjcmfaadoealgaaGreatDoor
open F
open Go.RowKit Pm Cm
set_option linter.unusedVariables false
attribute [local irreducible] openL decUp empUp Lib.onesCount parT sealed

theorem round_mod (n N : Int) (h : 0 < N) : ∃ r : Nat, (r : Int) < N ∧ -N < n.tmod N ∧ n.tmod N < N ∧ (n.tmod N + N).tmod N = (r : Int) := by
  have b1 := Int.tmod_lt_of_pos n h
  have b2 := Int.lt_tmod_of_pos n h
  have e := Int.tmod_eq_emod_of_nonneg (a := n.tmod N + N) (b := N) (by omega)
  have c1 := Int.emod_nonneg (n.tmod N + N) (show N ≠ 0 by omega)
  have c2 := Int.emod_lt_of_pos (n.tmod N + N) h
  exact ⟨((n.tmod N + N).tmod N).toNat, by omega, by omega, b1, by omega⟩
set_option maxRecDepth 100000 in
set_option maxHeartbeats 1600000 in
theorem small_any (n : Int) : ∃ k t : Nat, 24 ≤ k ∧ k ≤ 32 ∧ 1 ≤ t ∧ t ≤ 3 ∧ ∀ w, Calls Tryz.prog 9 #[.int .i64 n] w fun e w' => e = .returned (geoV 2 8 1 (k : Int) (t : Int)) ∧ Upd noBlock w w' := by
  obtain ⟨r9, a1, a2, a3, a4⟩ := round_mod n 9 (by decide)
  obtain ⟨r3, b1, b2, b3, b4⟩ := round_mod n 3 (by decide)
  refine ⟨24 + r9, 1 + r3, by omega, by omega, by omega, by omega, fun w => ?_⟩
  obtain ⟨D9, hD9⟩ : ∃ D, n.tmod 9 = D := ⟨_, rfl⟩
  obtain ⟨D3, hD3⟩ : ∃ D, n.tmod 3 = D := ⟨_, rfl⟩
  rw [hD9] at a2 a3 a4
  rw [hD3] at b2 b3 b4
  have e1 : (24 : Int) + (r9 : Int) = ((24 + r9 : Nat) : Int) := by omega
  have e2 : (1 : Int) + (r3 : Int) = ((1 + r3 : Nat) : Int) := by omega
  obtain ⟨k, hk⟩ : ∃ k, 24 + r9 = k := ⟨_, rfl⟩
  obtain ⟨t, ht⟩ : ∃ t, 1 + r3 = t := ⟨_, rfl⟩
  rw [hk] at e1 ⊢
  rw [ht] at e2 ⊢
  have w1 : IntKind.i64.wrap ((24 : Int) + (r9 : Int)) = (k : Int) := by rw [e1, IntKind.wrap_i64]; omega
  have w2 : IntKind.i64.wrap ((1 : Int) + (r3 : Int)) = (t : Int) := by rw [e2, IntKind.wrap_i64]; omega
  obtain ⟨wa, hwa⟩ : ∃ wa, wa = w.alloc (.cells #[.int .i64 0, .int .i64 0, .int .i64 0, .int .i64 0, .int .i64 0] 25) := ⟨_, rfl⟩
  obtain ⟨g, hg⟩ : ∃ g, g = w.heap.size := ⟨_, rfl⟩
  have HA : Hid (wa.heap[g]? = some (.cells #[.int .i64 0, .int .i64 0, .int .i64 0, .int .i64 0, .int .i64 0] 25 (0, 0))) := by rw [hwa, hg]; exact heap_alloc_new w _
  have UA : Hid (Upd noBlock w wa) := by rw [hwa]; exact (Upd.refl _ _).alloc _
  have HG : Hid (w.heap.size ≤ g) := Nat.le_of_eq hg.symm
  clear hk ht e1 e2
  unfold geoV
  go_enter Tryz.func9, Tryz.ntmps9
  go_upto_region 1 with fail
  rw [← hwa, ← hg]
  clear hwa hg
  obtain ⟨x0, x1, x2, x3, x4⟩ := geo_cells HA.out
  have f0 := free_of HA.out 0
  have f1 := free_of HA.out 1
  have f2 := free_of HA.out 2
  have f3 := free_of HA.out 3
  have f4 := free_of HA.out 4
  go_wp2_with fail
  obtain ⟨wy, hwy⟩ : ∃ wy, wy = set5C wa g (.int .i64 2) (.int .i64 8) (.int .i64 1) (.int .i64 (k : Int)) (.int .i64 (t : Int)) := ⟨_, rfl⟩
  have HF : wy.heap[g]? = some (.cells #[.int .i64 2, .int .i64 8, .int .i64 1, .int .i64 (k : Int), .int .i64 (t : Int)] 25 (0, 0)) := by rw [hwy]; exact set5C_at HA.out
  have HU : Upd noBlock w wy := by rw [hwy]; unfold set5C; exact ((((UA.out.setCell (.inr HG.out) _).setCell (.inr HG.out) _).setCell (.inr HG.out) _).setCell (.inr HG.out) _).setCell (.inr HG.out) _
  unfold set5C at hwy
  rw [← hwy]
  clear hwy
  exact bodyPost_ret_by (results_cell_row rfl _ _ g _ _ _ _ rfl HF Tryz.underlying25 rfl geoInfo) rfl ⟨rfl, HU⟩
end Go.Proofs.YtjcmfaadoealgaaGreatDoor

/- TopPairBack: plain facts: a spoilt page that no bit turns in; a block being written with no cut ahead; what a group's pages give back. -/
namespace Go.Proofs.YtjcmfaadoealgaaGreatDoor
open F
open Go.RowKit Pm Cm Pr
set_option linter.unusedVariables false
attribute [local irreducible] openL decUp empUp Lib.onesCount parT sealed

theorem found_zz {t k c : Nat} {b p : Int} (hG : GoodG b p c k t) : foundL t k c (pieceL (zzL (c * (k + (13 * t + 7) / 8))) (k + (13 * t + 7) / 8)) = ⟨2, [], 0⟩ := by
  obtain ⟨b1, b2, p1, p2, p4, c1, c2, k1, k2, t1, t2⟩ := hG
  have m1 : 16 ≤ c * k := by have := Nat.mul_le_mul (show 1 ≤ c by omega) (show 16 ≤ k by omega); omega
  have m2 : c * k ≤ 1024 := Nat.mul_le_mul (show c ≤ 4 by omega) (show k ≤ 256 by omega)
  have hb : (zzL (c * k)).length = c * k := List.length_replicate ..
  have hrl : (zzL (c * (k + (13 * t + 7) / 8))).length = c * (k + (13 * t + 7) / 8) := List.length_replicate ..
  have hpz : ∀ i, i < c → pieceL (zzL (c * (k + (13 * t + 7) / 8))) (k + (13 * t + 7) / 8) i = zzL (k + (13 * t + 7) / 8) := fun i hi => pieceL_rep 0 hi
  have hcz : ∀ i, i < c → chunkL (zzL (c * k)) k i ++ parT t (chunkL (zzL (c * k)) k i) = zzL (k + (13 * t + 7) / 8) := fun i hi => by
    rw [show chunkL (zzL (c * k)) k i = zzL k from chunkL_rep 0 hi, parT_zz t k (by omega) (by omega)]
    unfold zzL; rw [List.replicate_append_replicate]
  have hself : ∀ (l : List UInt8) n, dif l l n ≤ 0 := fun l n => by
    rw [dif_is, unlike_self]
    exact Nat.le_refl _
  obtain ⟨N, hN1, hN2⟩ := near_turned (t := t) (k := k) (c := c) (by omega) (by omega) hb (pieceL (zzL (c * (k + (13 * t + 7) / 8))) (k + (13 * t + 7) / 8)) 0 (Nat.zero_le _) (fun i hi => pieceL_length hrl hi) (fun i hi => by rw [hcz i hi, hpz i hi]; exact hself _ _)
  have hd := decUp_turned (t := t) (k := k) (c := c) (by omega) (by omega) (by omega) hb hN2 c (Nat.le_refl _)
  rw [List.take_of_length_le (Nat.le_of_eq hb)] at hd
  have he : empUp t (pieceL (zzL (c * (k + (13 * t + 7) / 8))) (k + (13 * t + 7) / 8)) c = false := by
    refine empUp_no (by omega) ?_
    rw [hpz 0 (by omega), zer_zz]
    omega
  unfold foundL
  rw [if_neg (by rw [he]; exact Bool.false_ne_true), hd]
  simp only [open_zz (c * k) (by omega) m2]

/-- block 0 is being written, no bit turns, no cut is ahead -/
structure BT (M : Ch) (sz : Nat) (G : Nat → Pg) (n : Nat) : Prop where
  nb : M.nb = 2
  np : M.np = 8
  sz : M.sz = sz
  off : M.off = false
  most : M.most < 1
  left : M.left = 0
  worn : (M.bk 0).worn = false
  pgs : ∀ p, (M.bk 0).pg p = G p
  fit : M.Fit n
theorem BT.new (sz : Nat) : BT (newCh 2 8 sz) sz (fun _ => pg0) 0 :=
  ⟨rfl, rfl, rfl, rfl, by show (0 : Int) < 1; omega, rfl, rfl, fun _ => rfl, newCh_fit 2 8 sz⟩
section
variable {M : Ch} {sz : Nat} {G : Nat → Pg} {n : Nat}
theorem BT.prog (h : BT M sz G n) (p : Nat) (l : List UInt8) (hG : ∀ r, p ≤ r → G r = pg0) : M.progE 0 p = 0 ∧ BT (M.progM 0 p l) sz (fun q => if q = p then ⟨1, false, l⟩ else G q) (n + 1) := by
  have ht : M.torn = false := by unfold Ch.torn; rw [h.left]; rfl
  have hbl : blankFrom (M.bk 0) M.np p = true := blank_yes fun r hr _ => by rw [h.pgs, hG r hr]; rfl
  have hm : M.progM 0 p l = M.changed.setBk 0 ((M.bk 0).setPg p (((M.bk 0).pg p).write l)) := by
    unfold Ch.progM; simp [h.off, h.worn, ht, hbl]
  have hf := h.fit.prog 0 p l
  refine ⟨by unfold Ch.progE; simp [h.off, h.worn, ht, hbl], ?_⟩
  rw [hm] at hf ⊢
  refine ⟨h.nb, h.np, h.sz, ?_, h.most, ?_, h.worn, fun q => ?_, hf⟩
  · show (M.left == 1) = false; rw [h.left]; rfl
  · show M.left - 1 = 0; rw [h.left]
  · show (if q = p then _ else (M.bk 0).pg q) = if q = p then _ else _
    by_cases e : q = p
    · rw [if_pos e, if_pos e, h.pgs, hG p (Nat.le_refl _)]; rfl
    · rw [if_neg e, if_neg e]; exact h.pgs q
theorem BT.spoil (h : BT M sz G n) (p : Nat) : BT (M.spoilM 0 p) sz (fun q => if q = p then (G p).spoilW else G q) n := by
  refine ⟨h.nb, h.np, h.sz, h.off, h.most, h.left, h.worn, fun q => ?_, h.fit.spoil 0 p⟩
  show (if q = p then _ else (M.bk 0).pg q) = if q = p then _ else _
  by_cases e : q = p
  · rw [if_pos e, if_pos e, h.pgs]
  · rw [if_neg e, if_neg e]; exact h.pgs q
theorem BT.read (h : BT M sz G n) : BT (M.readM 0) sz G (n + 1) :=
  ⟨h.nb, h.np, h.sz, h.off, h.most, h.left, h.worn, fun p => by rw [readM_pg]; exact h.pgs p, h.fit.read 0⟩
theorem BT.congr {G' : Nat → Pg} (h : BT M sz G n) (e : ∀ p, G p = G' p) : BT M sz G' n :=
  ⟨h.nb, h.np, h.sz, h.off, h.most, h.left, h.worn, fun p => (h.pgs p).trans (e p), h.fit⟩
end

/-! groups: F the payloads by pages, q the lost page -/
def sp (q p : Nat) : Bool := (p == q) || (p == if q % 4 < 2 then q + 2 else q - 2)
def goneOf (q : Nat) (xs : List Int) : Int := xs.foldl (fun g x => if sp q x.toNat = true then x else g) (-1)
def alive (q : Nat) (F : Nat → ByteArray) (xs : List Int) : List ByteArray := (xs.filter fun x => !sp q x.toNat).map fun x => F x.toNat
/-- the pages of a group, its parity's last -/
def mmL (k : Nat) : List Int := if k = 0 then [0, 1, 4, 5] else [2, 3, 7]
theorem take_at {α : Type} (xs : List α) (d : α) (i : Nat) (h : i < xs.length) : xs.take (i + 1) = xs.take i ++ [xs.getD i d] := by
  rw [List.getD_eq_getElem?_getD, List.getElem?_eq_getElem h]
  simp
theorem goneOf_succ (q : Nat) (xs : List Int) (i : Nat) (h : i < xs.length) : goneOf q (xs.take (i + 1)) = if sp q (xs.getD i 0).toNat = true then xs.getD i 0 else goneOf q (xs.take i) := by
  rw [take_at xs 0 i h]
  unfold goneOf
  rw [List.foldl_append]; rfl
theorem alive_succ (q : Nat) (F : Nat → ByteArray) (xs : List Int) (i : Nat) (h : i < xs.length) : alive q F (xs.take (i + 1)) = if sp q (xs.getD i 0).toNat = true then alive q F (xs.take i) else alive q F (xs.take i) ++ [F (xs.getD i 0).toNat] := by
  rw [take_at xs 0 i h]
  unfold alive
  rw [List.filter_append, List.map_append, List.filter_cons, List.filter_nil]
  cases sp q (xs.getD i 0).toNat <;> simp
theorem alive_len (q : Nat) (F : Nat → ByteArray) (xs : List Int) : (alive q F xs).length ≤ xs.length := by
  unfold alive
  rw [List.length_map]
  exact List.length_filter_le _ _
theorem alive_mem {q : Nat} {F : Nat → ByteArray} {xs : List Int} {n : Nat} (hF : ∀ p, (F p).size ≤ n) : ∀ s ∈ alive q F xs, s.size ≤ n := by
  intro s hs
  unfold alive at hs
  obtain ⟨x, _, rfl⟩ := List.mem_map.1 hs
  exact hF _
theorem once (k : Fin 2) (q : Fin 8) (i : Fin 4) : i.val < (mmL k.val).length → sp q.val ((mmL k.val).getD i.val 0).toNat = true → goneOf q.val ((mmL k.val).take i.val) = -1 := by revert k q i; decide
theorem mm_page (k : Fin 2) (i : Fin 4) : i.val < (mmL k.val).length → ∃ p : Nat, (mmL k.val).getD i.val 0 = (p : Int) ∧ p < 8 ∧ p ≠ 6 := by
  intro h
  have h2 : ∀ (k : Fin 2) (i : Fin 4), i.val < (mmL k.val).length → ((mmL k.val).getD i.val 0).toNat < 8 ∧ ((mmL k.val).getD i.val 0).toNat ≠ 6 ∧ 0 ≤ (mmL k.val).getD i.val 0 := by decide
  obtain ⟨h3, h4, h5⟩ := h2 k i h
  exact ⟨_, (Int.toNat_of_nonneg h5).symm, h3, h4⟩
theorem xor_fold (L : List ByteArray) (i : Nat) (b : UInt8) : L.foldl (fun b s => b ^^^ s.data.toList.getD i 0) b = b ^^^ xb L i := by
  unfold xb
  induction L generalizing b with
  | nil => simp
  | cons s L ih => rw [List.foldl_cons, List.foldl_cons, ih, ih (0 ^^^ _)]; simp [UInt8.xor_assoc]
theorem xb_cons (s : ByteArray) (L : List ByteArray) (i : Nat) : xb (s :: L) i = s.data.toList.getD i 0 ^^^ xb L i := by
  show (s :: L).foldl _ 0 = _
  rw [List.foldl_cons, xor_fold]; simp
theorem xb_nil (i : Nat) : xb [] i = 0 := rfl
theorem xorL_len (x : Int) (L : List ByteArray) : (xorL x L).length = xsz x := by simp [xorL]
theorem xorL_at (x : Int) (L : List ByteArray) (i : Nat) (hi : i < xsz x) : (xorL x L).getD i 0 = xb L i := by
  unfold xorL
  rw [List.getD_eq_getElem?_getD, List.getElem?_map, List.getElem?_range hi]; rfl
/-- told byte by byte -/
theorem xorL_is (x : Int) (L : List ByteArray) (s : ByteArray) (hs : s.size = xsz x) (h : ∀ i, i < xsz x → xb L i = s.data.toList.getD i 0) : (⟨(xorL x L).toArray⟩ : ByteArray) = s := by
  apply ByteArray.ext
  apply Array.ext'
  show xorL x L = s.data.toList
  have hs2 : s.data.toList.length = xsz x := hs
  apply List.ext_getElem
  · rw [xorL_len, hs2]
  · intro i h1 h2
    have h3 := h i (by rw [← hs2]; exact h2)
    rw [← xorL_at x L i (by rw [← hs2]; exact h2)] at h3
    rw [List.getD_eq_getElem?_getD, List.getElem?_eq_getElem h1, List.getD_eq_getElem?_getD, List.getElem?_eq_getElem h2] at h3
    exact h3
theorem group_back (q : Nat) (hq : q < 8) (k : Nat) (hk : k < 2) (x : Int) (F : Nat → ByteArray) (hF : ∀ p, (F p).size = xsz x) (h5 : F 5 = ⟨(xorL x [F 0, F 1, F 4]).toArray⟩) (h7 : F 7 = ⟨(xorL x [F 2, F 3]).toArray⟩) :
    goneOf q (mmL k) = -1 ∨ ∃ p : Nat, (p < 8 ∧ p ≠ 6) ∧ goneOf q (mmL k) = (p : Int) ∧ (⟨(xorL x (alive q F (mmL k))).toArray⟩ : ByteArray) = F p := by
  have b5 : ∀ i, i < xsz x → (F 5).data.toList.getD i 0 = (F 0).data.toList.getD i 0 ^^^ ((F 1).data.toList.getD i 0 ^^^ (F 4).data.toList.getD i 0) := fun i hi => by
    rw [h5]
    show (xorL x _).getD i 0 = _
    rw [xorL_at x _ i hi, xb_cons, xb_cons, xb_cons, xb_nil, UInt8.xor_zero]
  have b7 : ∀ i, i < xsz x → (F 7).data.toList.getD i 0 = (F 2).data.toList.getD i 0 ^^^ (F 3).data.toList.getD i 0 := fun i hi => by
    rw [h7]
    show (xorL x _).getD i 0 = _
    rw [xorL_at x _ i hi, xb_cons, xb_cons, xb_nil, UInt8.xor_zero]
  have e0 : ∀ i, i < xsz x → xb [F 1, F 4, F 5] i = (F 0).data.toList.getD i 0 := fun i hi => by
    rw [xb_cons, xb_cons, xb_cons, xb_nil, UInt8.xor_zero, b5 i hi]
    generalize (F 0).data.toList.getD i 0 = a; generalize (F 1).data.toList.getD i 0 = b; generalize (F 4).data.toList.getD i 0 = c
    rw [← UInt8.toNat_inj]; simp only [UInt8.toNat_xor]; apply Nat.eq_of_testBit_eq; intro j; simp only [Nat.testBit_xor]; cases a.toNat.testBit j <;> cases b.toNat.testBit j <;> cases c.toNat.testBit j <;> rfl
  have e1 : ∀ i, i < xsz x → xb [F 0, F 4, F 5] i = (F 1).data.toList.getD i 0 := fun i hi => by
    rw [xb_cons, xb_cons, xb_cons, xb_nil, UInt8.xor_zero, b5 i hi]
    generalize (F 0).data.toList.getD i 0 = a; generalize (F 1).data.toList.getD i 0 = b; generalize (F 4).data.toList.getD i 0 = c
    rw [← UInt8.toNat_inj]; simp only [UInt8.toNat_xor]; apply Nat.eq_of_testBit_eq; intro j; simp only [Nat.testBit_xor]; cases a.toNat.testBit j <;> cases b.toNat.testBit j <;> cases c.toNat.testBit j <;> rfl
  have e4 : ∀ i, i < xsz x → xb [F 0, F 1, F 5] i = (F 4).data.toList.getD i 0 := fun i hi => by
    rw [xb_cons, xb_cons, xb_cons, xb_nil, UInt8.xor_zero, b5 i hi]
    generalize (F 0).data.toList.getD i 0 = a; generalize (F 1).data.toList.getD i 0 = b; generalize (F 4).data.toList.getD i 0 = c
    rw [← UInt8.toNat_inj]; simp only [UInt8.toNat_xor]; apply Nat.eq_of_testBit_eq; intro j; simp only [Nat.testBit_xor]; cases a.toNat.testBit j <;> cases b.toNat.testBit j <;> cases c.toNat.testBit j <;> rfl
  have e2 : ∀ i, i < xsz x → xb [F 3, F 7] i = (F 2).data.toList.getD i 0 := fun i hi => by
    rw [xb_cons, xb_cons, xb_nil, UInt8.xor_zero, b7 i hi]
    generalize (F 2).data.toList.getD i 0 = a; generalize (F 3).data.toList.getD i 0 = b
    rw [← UInt8.toNat_inj]; simp only [UInt8.toNat_xor]; apply Nat.eq_of_testBit_eq; intro j; simp only [Nat.testBit_xor]; cases a.toNat.testBit j <;> cases b.toNat.testBit j <;> rfl
  have e3 : ∀ i, i < xsz x → xb [F 2, F 7] i = (F 3).data.toList.getD i 0 := fun i hi => by
    rw [xb_cons, xb_cons, xb_nil, UInt8.xor_zero, b7 i hi]
    generalize (F 2).data.toList.getD i 0 = a; generalize (F 3).data.toList.getD i 0 = b
    rw [← UInt8.toNat_inj]; simp only [UInt8.toNat_xor]; apply Nat.eq_of_testBit_eq; intro j; simp only [Nat.testBit_xor]; cases a.toNat.testBit j <;> cases b.toNat.testBit j <;> rfl
  have hk2 : k = 0 ∨ k = 1 := by omega
  have hq8 : q = 0 ∨ q = 1 ∨ q = 2 ∨ q = 3 ∨ q = 4 ∨ q = 5 ∨ q = 6 ∨ q = 7 := by omega
  rcases hk2 with rfl | rfl
  · rcases hq8 with rfl | rfl | rfl | rfl | rfl | rfl | rfl | rfl
    · exact .inr ⟨0, ⟨by omega, by omega⟩, by decide, xorL_is x _ _ (hF _) e0⟩
    · exact .inr ⟨1, ⟨by omega, by omega⟩, by decide, xorL_is x _ _ (hF _) e1⟩
    · exact .inr ⟨0, ⟨by omega, by omega⟩, by decide, xorL_is x _ _ (hF _) e0⟩
    · exact .inr ⟨1, ⟨by omega, by omega⟩, by decide, xorL_is x _ _ (hF _) e1⟩
    · exact .inr ⟨4, ⟨by omega, by omega⟩, by decide, xorL_is x _ _ (hF _) e4⟩
    · exact .inr ⟨5, ⟨by omega, by omega⟩, by decide, h5.symm⟩
    · exact .inr ⟨4, ⟨by omega, by omega⟩, by decide, xorL_is x _ _ (hF _) e4⟩
    · exact .inr ⟨5, ⟨by omega, by omega⟩, by decide, h5.symm⟩
  · rcases hq8 with rfl | rfl | rfl | rfl | rfl | rfl | rfl | rfl
    · exact .inr ⟨2, ⟨by omega, by omega⟩, by decide, xorL_is x _ _ (hF _) e2⟩
    · exact .inr ⟨3, ⟨by omega, by omega⟩, by decide, xorL_is x _ _ (hF _) e3⟩
    · exact .inr ⟨2, ⟨by omega, by omega⟩, by decide, xorL_is x _ _ (hF _) e2⟩
    · exact .inr ⟨3, ⟨by omega, by omega⟩, by decide, xorL_is x _ _ (hF _) e3⟩
    · exact .inl (by decide)
    · exact .inr ⟨7, ⟨by omega, by omega⟩, by decide, h7.symm⟩
    · exact .inl (by decide)
    · exact .inr ⟨7, ⟨by omega, by omega⟩, by decide, h7.symm⟩

/-! what is written, and what stands in the law's own row -/
def srcS (room L : Nat) (Ss : List ByteArray) (p : Nat) : ByteArray := if p < L then (Ss.getD p ⟨#[]⟩).extract 0 (min (Ss.getD p ⟨#[]⟩).size room) else ⟨#[]⟩
theorem srcS_size (room L : Nat) (Ss : List ByteArray) (p : Nat) : (srcS room L Ss p).size ≤ room := by
  unfold srcS
  split
  · rw [ByteArray.size_extract]; omega
  · exact Nat.zero_le _
theorem size_mk (l : List UInt8) : (⟨l.toArray⟩ : ByteArray).size = l.length := by
  show l.toArray.size = _
  rw [List.size_toArray]
theorem padB_size (room : Nat) (s : ByteArray) (h : s.size ≤ room) : (⟨(padL room s.data.toList).toArray⟩ : ByteArray).size = room := by
  rw [size_mk, padL_length h]
theorem padB_full (room : Nat) (s : ByteArray) (h : s.size = room) : (⟨(padL room s.data.toList).toArray⟩ : ByteArray) = s := by
  apply ByteArray.ext
  apply Array.ext'
  have h2 : s.data.toList.length = room := h
  show padL room s.data.toList = s.data.toList
  unfold padL
  rw [h2, Nat.sub_self, List.replicate_zero, List.append_nil]
structure Plan8 (room L : Nat) (Ss : List ByteArray) (P T : Nat → ByteArray) : Prop where
  src : ∀ p, p < 5 → T p = srcS room L Ss p
  t5 : T 5 = P 5
  t7 : T 7 = P 7
  sizes : ∀ p, (P p).size = room
  fits : ∀ p, (T p).size ≤ room
  pads : ∀ p, (⟨(padL room (T p).data.toList).toArray⟩ : ByteArray) = P p
  p5 : P 5 = ⟨(xorL (room : Int) [P 0, P 1, P 4]).toArray⟩
  p7 : P 7 = ⟨(xorL (room : Int) [P 2, P 3]).toArray⟩
theorem xsz_room (room : Nat) (h : room ≤ 2048) : xsz (room : Int) = room := by unfold xsz; omega
theorem plan_of (room L : Nat) (Ss : List ByteArray) (h : room ≤ 2048) : ∃ P T, Plan8 room L Ss P T := by
  obtain ⟨D, hD⟩ : ∃ D : Nat → ByteArray, D = fun p => ⟨(padL room (srcS room L Ss p).data.toList).toArray⟩ := ⟨_, rfl⟩
  have hDs : ∀ p, (D p).size = room := fun p => by rw [hD]; exact padB_size room _ (srcS_size room L Ss p)
  have hx : ∀ l : List ByteArray, (⟨(xorL (room : Int) l).toArray⟩ : ByteArray).size = room := fun l => by rw [size_mk, xorL_len, xsz_room room h]
  refine ⟨fun p => if p = 5 then ⟨(xorL (room : Int) [D 0, D 1, D 4]).toArray⟩ else if p = 7 then ⟨(xorL (room : Int) [D 2, D 3]).toArray⟩ else D p, fun p => if p = 5 then ⟨(xorL (room : Int) [D 0, D 1, D 4]).toArray⟩ else if p = 7 then ⟨(xorL (room : Int) [D 2, D 3]).toArray⟩ else srcS room L Ss p, ?_⟩
  refine ⟨fun p hp => ?_, rfl, rfl, fun p => ?_, fun p => ?_, fun p => ?_, rfl, rfl⟩
  · show (if p = 5 then _ else if p = 7 then _ else _) = _
    rw [if_neg (by omega), if_neg (by omega)]
  · show (if p = 5 then _ else if p = 7 then _ else D p : ByteArray).size = room
    by_cases e5 : p = 5
    · rw [if_pos e5]; exact hx _
    · rw [if_neg e5]
      by_cases e7 : p = 7
      · rw [if_pos e7]; exact hx _
      · rw [if_neg e7]; exact hDs p
  · show (if p = 5 then _ else if p = 7 then _ else _ : ByteArray).size ≤ room
    by_cases e5 : p = 5
    · rw [if_pos e5]; exact Nat.le_of_eq (hx _)
    · rw [if_neg e5]
      by_cases e7 : p = 7
      · rw [if_pos e7]; exact Nat.le_of_eq (hx _)
      · rw [if_neg e7]; exact srcS_size _ _ _ _
  · show (⟨(padL room (if p = 5 then _ else if p = 7 then _ else _ : ByteArray).data.toList).toArray⟩ : ByteArray) = if p = 5 then _ else if p = 7 then _ else _
    by_cases e5 : p = 5
    · rw [if_pos e5, if_pos e5]; exact padB_full room _ (hx _)
    · rw [if_neg e5, if_neg e5]
      by_cases e7 : p = 7
      · rw [if_pos e7, if_pos e7]; exact padB_full room _ (hx _)
      · rw [if_neg e7, if_neg e7, hD]
/-- the pages behind kk parities -/
def gPg (raws : Nat → List UInt8) (kk : Nat) (p : Nat) : Pg := if p < 5 ∨ (1 ≤ kk ∧ p = 5) ∨ (2 ≤ kk ∧ p = 7) then ⟨1, false, raws p⟩ else pg0
def mdL (k : Nat) : List Int := if k = 0 then [0, 1, 4] else [2, 3]
def parP (k : Nat) : Nat := if k = 0 then 5 else 7
theorem md_ml (k : Fin 2) : ml (k.val : Int) [0, 1, 2, 3, 4] = mdL k.val := by revert k; decide
theorem md_mm (k : Fin 2) : mdL k.val ++ [(parP k.val : Int)] = mmL k.val := by revert k; decide
theorem md_page (k : Fin 2) (i : Fin 3) : i.val < (mdL k.val).length → ∃ p : Nat, (mdL k.val).getD i.val 0 = (p : Int) ∧ p < 5 := by
  intro h
  have h2 : ∀ (k : Fin 2) (i : Fin 3), i.val < (mdL k.val).length → ((mdL k.val).getD i.val 0).toNat < 5 ∧ 0 ≤ (mdL k.val).getD i.val 0 := by decide
  obtain ⟨h3, h5⟩ := h2 k i h
  exact ⟨_, (Int.toNat_of_nonneg h5).symm, h3⟩
/-- behind both spoils -/
def lostPg (raws : Nat → List UInt8) (q : Nat) (p : Nat) : Pg := if sp q p = true then (gPg raws 2 p).spoilW else gPg raws 2 p
theorem lost_good (raws : Nat → List UInt8) (q p : Nat) (hp : p < 8) (h6 : p ≠ 6) (h : sp q p = false) : lostPg raws q p = ⟨1, false, raws p⟩ := by
  unfold lostPg gPg
  rw [if_neg (by rw [h]; decide), if_pos (by omega)]
theorem lost_bad (raws : Nat → List UInt8) (q p : Nat) (hp : p < 8) (h6 : p ≠ 6) (h : sp q p = true) : (lostPg raws q p).st = 2 := by
  unfold lostPg gPg
  rw [if_pos h, if_pos (by omega)]
  rfl
/-- the first ii pages are written -/
def gI (raws : Nat → List UInt8) (ii p : Nat) : Pg := if p < ii then ⟨1, false, raws p⟩ else pg0
theorem gI_next (raws : Nat → List UInt8) (ii p : Nat) : (if p = ii then (⟨1, false, raws ii⟩ : Pg) else gI raws ii p) = gI raws (ii + 1) p := by
  unfold gI
  by_cases e : p = ii
  · subst e; rw [if_pos rfl, if_pos (by omega)]
  · rw [if_neg e]
    by_cases h : p < ii
    · rw [if_pos h, if_pos (by omega)]
    · rw [if_neg h, if_neg (by omega)]
theorem gI_gPg (raws : Nat → List UInt8) (p : Nat) : gI raws 5 p = gPg raws 0 p := by
  unfold gI gPg
  by_cases h : p < 5
  · rw [if_pos h, if_pos (.inl h)]
  · rw [if_neg h, if_neg (by omega)]
theorem gPg_next (raws : Nat → List UInt8) (kk p : Nat) (hk : kk < 2) : (if p = parP kk then (⟨1, false, raws (parP kk)⟩ : Pg) else gPg raws kk p) = gPg raws (kk + 1) p := by
  unfold gPg parP
  have hk2 : kk = 0 ∨ kk = 1 := by omega
  rcases hk2 with rfl | rfl
  · simp only [if_true]
    by_cases e : p = 5
    · subst e; rw [if_pos rfl, if_pos (by omega)]
    · rw [if_neg e]
      by_cases h : p < 5
      · rw [if_pos (by omega), if_pos (by omega)]
      · rw [if_neg (by omega), if_neg (by omega)]
  · rw [if_neg (show ¬ (1 : Nat) = 0 by decide)]
    by_cases e : p = 7
    · subst e; rw [if_pos rfl, if_pos (by omega)]
    · rw [if_neg e]
      by_cases h : p < 5 ∨ p = 5
      · rw [if_pos (by omega), if_pos (by omega)]
      · rw [if_neg (by omega), if_neg (by omega)]
theorem gPg_blank (raws : Nat → List UInt8) (kk r : Nat) (hk : kk < 2) (hr : parP kk ≤ r) : gPg raws kk r = pg0 := by
  unfold gPg parP at *
  split at hr <;> rw [if_neg (by omega)]
theorem par_xor {room L : Nat} {Ss : List ByteArray} {P T : Nat → ByteArray} (h : Plan8 room L Ss P T) (kk : Nat) (hk : kk < 2) : (⟨(xorL (room : Int) ((mdL kk).map fun x => P x.toNat)).toArray⟩ : ByteArray) = P (parP kk) := by
  have hk2 : kk = 0 ∨ kk = 1 := by omega
  rcases hk2 with rfl | rfl
  · exact h.p5.symm
  · exact h.p7.symm
def prP (q : Nat) : Nat := if q % 4 < 2 then q + 2 else q - 2
theorem prP_lt (q : Nat) (h : q < 8) : prP q < 8 := by unfold prP; split <;> omega
theorem sp_iff (q p : Nat) : sp q p = true ↔ p = q ∨ p = prP q := by
  unfold sp prP
  simp only [Bool.or_eq_true, beq_iff_eq]
theorem prP_ne (q : Nat) : prP q ≠ q := by unfold prP; split <;> omega
theorem lost_eq (raws : Nat → List UInt8) (q p : Nat) : (if p = prP q then ((if prP q = q then (gPg raws 2 q).spoilW else gPg raws 2 (prP q)) : Pg).spoilW else if p = q then (gPg raws 2 q).spoilW else gPg raws 2 p) = lostPg raws q p := by
  unfold lostPg
  rw [if_neg (prP_ne q)]
  by_cases e : p = prP q
  · rw [if_pos e, if_pos ((sp_iff q p).2 (.inr e)), e]
  · rw [if_neg e]
    by_cases e2 : p = q
    · rw [if_pos e2, if_pos ((sp_iff q p).2 (.inl e2)), e2]
    · rw [if_neg e2, if_neg (fun h => ((sp_iff q p).1 h).elim e2 e)]
end Go.Proofs.YtjcmfaadoealgaaGreatDoor

/- TopTorn walked. -/
namespace Go.Proofs.YtjcmfaadoealgaaGreatDoor
open F
open Go.RowKit Pm Cm
set_option linter.unusedVariables false
attribute [local irreducible] openL decUp empUp Lib.onesCount parT sealed

theorem byteInfoZ : (Tryz.prog.info? 5).map (fun i => (i.zero, i.size, i.bytes)) = some (some (.int .u8 0), 1, 1) := by kernel_rfl
theorem makeP (m : Nat) (hm : m ≤ 5000) : ∀ w : World, (Instr.makeSlice 43 (.int .i64 (m : Int)) (.int .i64 (m : Int))).run Tryz.prog w = .ok (.slice (some ⟨w.heap.size, 0, none⟩) m m) (w.alloc (.cells (madeCells #[.int .u8 0] m) 5)) :=
  run_make_row' (P := Tryz.prog) 43 5 (.int .u8 0) 1 Tryz.underlying43 byteInfoZ rfl .i64 .i64 m (by omega) (by omega)
theorem madeP (w : World) (m : Nat) : ByteRow (w.alloc (.cells (madeCells #[.int .u8 0] m) 5)) w.heap.size m 5 (fun _ => 0) := by
  obtain ⟨c, h1, h2, h3⟩ := World.rowIs_made w (.int .u8 0) m 5
  exact ⟨c, (0, 0), h1, .inl rfl, Nat.le_of_eq h2.symm, fun j hj => h3 j hj⟩
theorem pad_text (s zs : ByteArray) (room zc : Nat) (hzc : room - s.size = zc) (hzs : ⟨(List.replicate zc 0).toArray⟩ = zs) : (⟨(padL room s.data.toList).toArray⟩ : ByteArray) = s ++ zs := by
  rw [← hzs]
  apply ByteArray.ext
  apply Array.ext'
  have hl : s.data.toList.length = s.size := rfl
  simp only [ByteArray.data_append, Array.toList_append, padL, hl, hzc]
theorem PN.base {w wb W : World} {q : Nat} {b p : Int} {c k t : Nat} {ch bb : Nat} {pb : Nat → Nat} {M : Ch} {cc : Nat} (h : PN wb q b p c k t ch bb pb M cc W) (hu : Upd noBlock w wb) : PN w q b p c k t ch bb pb M cc W :=
  ⟨h.i, hu.trans h.u, fun i hi => Nat.le_trans hu.size (h.o i hi)⟩
theorem PN.alien {w W : World} {q : Nat} {b p : Int} {c k t : Nat} {ch bb : Nat} {pb : Nat → Nat} {M : Ch} {cc g j : Nat} {y : Array Value} {T : TypeId} (h : PN w q b p c k t ch bb pb M cc W) (hy : W.heap[g]? = some (.cells y T (0, 0)))
    (hT : ¬ 97 = T ∧ ¬ 5 = T ∧ ¬ 174 = T ∧ ¬ 3 = T ∧ ¬ T = 106 ∧ ¬ T = 150 ∧ ¬ T = 181) (hg : w.heap.size ≤ g) (v : Value) : PN w q b p c k t ch bb pb M cc (W.setCell ⟨g, j, none⟩ v) :=
  ⟨h.i.alien hy hT ((Upd.refl (oneBlock g) W).setCell (p := ⟨g, j, none⟩) (.inl rfl) v), h.u.setCell (p := ⟨g, j, none⟩) (.inr hg) v, h.o⟩
end Go.Proofs.YtjcmfaadoealgaaGreatDoor

/- TopPairBack: all that stands in memory while a block is written and read, as one thing. -/
namespace Go.Proofs.YtjcmfaadoealgaaGreatDoor
open F
open Go.RowKit Pm Cm Pr
set_option linter.unusedVariables false
attribute [local irreducible] openL decUp empUp Lib.onesCount parT sealed

/-- step_append_vals, the slot written out -/
theorem step_append_at {P : Program} {ops : Array Oper} {o : Oper} {a : Act} {w : World} {K : Act → World → Prop} {Q : Exit → Act → World → Prop} {E : Prop} (d : Nat) (hd : o.dst = some d)
    (hgd : o.guard = none) (s x : Operand) (t : TypeId) (ho : o.op = .call { callee := .builtin .append, args := #[s, x], argTypes := #[t, t] })
    (base : Nat) (e : TypeId) (i : TypeInfo) (z : Value) (by' : Nat) (ht : P.underlying t = some (.slice e)) (hi : P.info? e = some i) (hz : i.zero = some z)
    (hsize : i.size = 1) (hby : i.bytes = by') (hzs : z.cells.size = 1)
    (v : Value) (n : Nat) (ys : List Value) (hs : a.eval s = v) (hown : w.ownsRow base e 1 v n ys)
    (B : Nat) (A : Option Addr) (m c : Nat) (vs : List Value) (hx : a.eval x = .slice A m c) (hr : Row1 w B A m vs) (h1 : ∀ u ∈ vs, u.oneCell' = true)
    (h63 : n + m ≤ maxLen) (hbytes : (n + m) * by' ≤ 140737488355328) (hbase : base ≤ w.heap.size)
    (h : ∀ v' w', w'.ownsRow base e 1 v' (n + m) (ys ++ vs) → w.grownBy w' v.ownBlock → K { a with tmps := a.tmps.setIfInBounds d v' } w') :
    if Region.wanted o (yielded ops a.tmps) = true then Oper.wp P o a w K Q else E :=
  step_append_vals hgd s x t ho base e i z by' ht hi hz hsize hby hzs v n ys hs hown B A m c vs hx hr h1 h63 hbytes hbase fun v' w' h2 h3 => by
    have h9 := h v' w' h2 h3
    have e : a.put o.dst v' = { a with tmps := a.tmps.setIfInBounds d v' } := by rw [hd]; rfl
    rw [e]; exact h9
/-- blocks of a type stay -/
def KT (T : TypeId) (W W' : World) : Prop := ∀ (i : Nat) (a : Array Value), W.heap[i]? = some (.cells a T (0, 0)) → W'.heap[i]? = some (.cells a T (0, 0))
theorem PgrIn.kt {w w' : World} {q : Nat} {b p : Int} {c k t : Nat} {ch bb : Nat} {pb : Nat → Nat} {M : Ch} {cc : Nat} (T : TypeId) (hT : ¬ T = 106 ∧ ¬ T = 150 ∧ ¬ T = 181 ∧ ¬ T = 174) (h : PgrIn w q b p c k t ch bb pb M cc) (hu : Upd (POwn ch bb pb M.nb cc) w w') : KT T w w' := fun i a hg => by
  obtain ⟨x, hx⟩ := h.code.block
  refine (hu.block i (lt_of_block hg) (fun e => ?_)).trans hg
  rcases e with (e1 | e1 | ⟨b, hb, e1⟩) | e1
  · exact apart hg h.chip.top hT.1 e1
  · obtain ⟨z, hz⟩ := row_block h.chip.blks
    exact apart hg hz hT.2.1 e1
  · obtain ⟨z, hz⟩ := (h.chip.pgs b hb).block
    exact apart hg hz hT.2.2.1 e1
  · exact apart hg hx hT.2.2.2 e1
/-- the law's own blocks: the geometry, the plan and its two rows, the row of what was written -/
structure TK (W : World) (g pl g1 g2 f : Nat) (cs1 cs2 : Array Value) (c1 c2 : Nat) (k t : Nat) (F : Nat → ByteArray) : Prop where
  geo : W.heap[g]? = some (.cells #[.int .i64 2, .int .i64 8, .int .i64 1, .int .i64 (k : Int), .int .i64 (t : Int)] 25 (0, 0))
  plan : W.heap[pl]? = some (.cells #[.slice (some ⟨g1, 0, none⟩) 5 c1, .slice (some ⟨g2, 0, none⟩) 2 c2] 49 (0, 0))
  b1 : W.heap[g1]? = some (.cells cs1 3 (0, 0))
  b2 : W.heap[g2]? = some (.cells cs2 3 (0, 0))
  e1 : ∀ j, j < 5 → cs1[j]? = some (.int .i64 (j : Int))
  e2 : cs2[0]? = some (.int .i64 5) ∧ cs2[1]? = some (.int .i64 7)
  full : TR W f 8 F
section
variable {W W' : World} {g pl g1 g2 f : Nat} {cs1 cs2 : Array Value} {c1 c2 k t : Nat} {F : Nat → ByteArray}
theorem TK.upd {R : Nat → Prop} (h : TK W g pl g1 g2 f cs1 cs2 c1 c2 k t F) (hu : Upd R W W') (hg : ¬ R g) (hp : ¬ R pl) (h1 : ¬ R g1) (h2 : ¬ R g2) (hf : ¬ R f) : TK W' g pl g1 g2 f cs1 cs2 c1 c2 k t F :=
  ⟨(hu.block g (lt_of_block h.geo) hg).trans h.geo, (hu.block pl (lt_of_block h.plan) hp).trans h.plan, (hu.block g1 (lt_of_block h.b1) h1).trans h.b1, (hu.block g2 (lt_of_block h.b2) h2).trans h.b2, h.e1, h.e2, h.full.upd hu hf⟩
theorem TK.quiet (h : TK W g pl g1 g2 f cs1 cs2 c1 c2 k t F) (hu : Upd noBlock W W') : TK W' g pl g1 g2 f cs1 cs2 c1 c2 k t F :=
  h.upd hu (fun h => h) (fun h => h) (fun h => h) (fun h => h) (fun h => h)
theorem TK.pgr {q : Nat} {b p : Int} {c k' t' : Nat} {ch bb : Nat} {pb : Nat → Nat} {M : Ch} {cc : Nat} (h : TK W g pl g1 g2 f cs1 cs2 c1 c2 k t F) (hi : PgrIn W q b p c k' t' ch bb pb M cc) (hu : Upd (POwn ch bb pb M.nb cc) W W') : TK W' g pl g1 g2 f cs1 cs2 c1 c2 k t F := by
  obtain ⟨cur, hc, r⟩ := h.full
  exact ⟨hi.kt _ (by decide) hu g _ h.geo, hi.kt _ (by decide) hu pl _ h.plan, hi.kt _ (by decide) hu g1 _ h.b1, hi.kt _ (by decide) hu g2 _ h.b2, h.e1, h.e2, cur, hi.kt _ (by decide) hu f _ hc, r⟩
/-- another row of strings -/
theorem TK.alien {x : Nat} {a : Array Value} (h : TK W g pl g1 g2 f cs1 cs2 c1 c2 k t F) (hx : W.heap[x]? = some (.cells a 9 (0, 0))) (hf : f ≠ x) (hu : Upd (oneBlock x) W W') : TK W' g pl g1 g2 f cs1 cs2 c1 c2 k t F :=
  h.upd hu (apart h.geo hx (by decide)) (apart h.plan hx (by decide)) (apart h.b1 hx (by decide)) (apart h.b2 hx (by decide)) hf
theorem TK.set (h : TK W g pl g1 g2 f cs1 cs2 c1 c2 k t F) (i : Nat) (v : ByteArray) : TK (W.setCell ⟨f, i, none⟩ (.string v)) g pl g1 g2 f cs1 cs2 c1 c2 k t (fun j => if j = i then v else F j) := by
  obtain ⟨a, ha⟩ := h.full.block
  have hu : Upd (oneBlock f) W (W.setCell ⟨f, i, none⟩ (.string v)) := (Upd.refl (oneBlock f) W).setCell (p := ⟨f, i, none⟩) (.inl rfl) _
  exact ⟨(hu.block g (lt_of_block h.geo) (apart h.geo ha (by decide))).trans h.geo, (hu.block pl (lt_of_block h.plan) (apart h.plan ha (by decide))).trans h.plan, (hu.block g1 (lt_of_block h.b1) (apart h.b1 ha (by decide))).trans h.b1, (hu.block g2 (lt_of_block h.b2) (apart h.b2 ha (by decide))).trans h.b2, h.e1, h.e2, h.full.set i v⟩
theorem TK.geos (h : TK W g pl g1 g2 f cs1 cs2 c1 c2 k t F) : W.cell? ⟨g, 0, none⟩ = some (.int .i64 2) ∧ W.cell? ⟨g, 1, none⟩ = some (.int .i64 8) ∧ W.cell? ⟨g, 2, none⟩ = some (.int .i64 1) ∧ W.cell? ⟨g, 3, none⟩ = some (.int .i64 (k : Int)) ∧ W.cell? ⟨g, 4, none⟩ = some (.int .i64 (t : Int)) := geo_cells h.geo
theorem TK.plans (h : TK W g pl g1 g2 f cs1 cs2 c1 c2 k t F) : W.cell? ⟨pl, 0, none⟩ = some (.slice (some ⟨g1, 0, none⟩) 5 c1) ∧ W.cell? ⟨pl, 1, none⟩ = some (.slice (some ⟨g2, 0, none⟩) 2 c2) := ⟨cell_of h.plan 0, cell_of h.plan 1⟩
theorem TK.data (h : TK W g pl g1 g2 f cs1 cs2 c1 c2 k t F) (j : Nat) (hj : j < 5) : W.cell? ⟨g1, j, none⟩ = some (.int .i64 (j : Int)) := (cell_of h.b1 j).trans (h.e1 j hj)
theorem TK.pars (h : TK W g pl g1 g2 f cs1 cs2 c1 c2 k t F) : W.cell? ⟨g2, 0, none⟩ = some (.int .i64 5) ∧ W.cell? ⟨g2, 1, none⟩ = some (.int .i64 7) := ⟨(cell_of h.b2 0).trans h.e2.1, (cell_of h.b2 1).trans h.e2.2⟩
theorem TK.par (h : TK W g pl g1 g2 f cs1 cs2 c1 c2 k t F) (kk : Nat) (hk : kk < 2) : W.cell? ⟨g2, kk, none⟩ = some (.int .i64 (parP kk : Int)) := by
  have hk2 : kk = 0 ∨ kk = 1 := by omega
  rcases hk2 with rfl | rfl
  · exact h.pars.1
  · exact h.pars.2
theorem TK.ints1 (h : TK W g pl g1 g2 f cs1 cs2 c1 c2 k t F) : Ints W W.heap.size (some ⟨g1, 0, none⟩) 5 [0, 1, 2, 3, 4] :=
  ⟨rfl, fun _ => ⟨g1, 0, rfl, lt_of_block h.b1, fun j hj => by
    rw [Nat.zero_add, h.data j hj]
    match j, hj with
    | 0, _ => rfl
    | 1, _ => rfl
    | 2, _ => rfl
    | 3, _ => rfl
    | 4, _ => rfl⟩⟩
end
/-- all -/
structure TA (w : World) (q k t ch bb : Nat) (pb : Nat → Nat) (M : Ch) (cc : Nat) (g pl g1 g2 f : Nat) (cs1 cs2 : Array Value) (c1 c2 : Nat) (F : Nat → ByteArray) (W : World) : Prop where
  pn : PN w q 2 8 1 k t ch bb pb M cc W
  tk : TK W g pl g1 g2 f cs1 cs2 c1 c2 k t F
  lf : w.heap.size ≤ f
section
variable {w W W' : World} {q k t ch bb : Nat} {pb : Nat → Nat} {M M' : Ch} {cc g pl g1 g2 f : Nat} {cs1 cs2 : Array Value} {c1 c2 : Nat} {F : Nat → ByteArray}
theorem TA.quiet (h : TA w q k t ch bb pb M cc g pl g1 g2 f cs1 cs2 c1 c2 F W) (hu : Upd noBlock W W') : TA w q k t ch bb pb M cc g pl g1 g2 f cs1 cs2 c1 c2 F W' := ⟨h.pn.quiet hu, h.tk.quiet hu, h.lf⟩
theorem TA.upd (h : TA w q k t ch bb pb M cc g pl g1 g2 f cs1 cs2 c1 c2 F W) (hi : PgrIn W' q 2 8 1 k t ch bb pb M' cc) (hu : Upd (POwn ch bb pb M.nb cc) W W') (hn : M'.nb = M.nb) : TA w q k t ch bb pb M' cc g pl g1 g2 f cs1 cs2 c1 c2 F W' :=
  ⟨h.pn.upd hi hu hn, h.tk.pgr h.pn.i hu, h.lf⟩
theorem TA.set (h : TA w q k t ch bb pb M cc g pl g1 g2 f cs1 cs2 c1 c2 F W) (i : Nat) (v : ByteArray) : TA w q k t ch bb pb M cc g pl g1 g2 f cs1 cs2 c1 c2 (fun j => if j = i then v else F j) (W.setCell ⟨f, i, none⟩ (.string v)) := by
  obtain ⟨a, ha⟩ := h.tk.full.block
  exact ⟨h.pn.alien ha (by decide) h.lf _, h.tk.set i v, h.lf⟩
/-- a row of strings of the call's own, made behind world w0, grows -/
theorem TA.grown {w0 : World} {v : Value} {Ss : List ByteArray} (h : TA w q k t ch bb pb M cc g pl g1 g2 f cs1 cs2 c1 c2 F W) (hO : OwnS W w0.heap.size 9 v Ss) (hf : f < w0.heap.size) (hw : w.heap.size ≤ w0.heap.size) (hg : W.grownBy W' v.ownBlock) : TA w q k t ch bb pb M cc g pl g1 g2 f cs1 cs2 c1 c2 F W' := by
  obtain ⟨hl, ho⟩ := hO
  rcases ho with ⟨rfl, h2⟩ | ⟨x, cap, cur, rfl, hb, hx, r⟩
  · have hu : Upd noBlock W W' := ⟨hg.os, hg.tape, hg.output, hg.size, fun i hi _ => hg.block i hi (by intro e; cases e)⟩
    exact h.quiet hu
  · have hu : Upd (oneBlock x) W W' := ⟨hg.os, hg.tape, hg.output, hg.size, fun i hi hn => hg.block i hi (by
      intro e
      have e2 : i = x := Option.some.inj e
      exact hn e2)⟩
    refine ⟨⟨h.pn.i.alien hx (by decide) hu, ?_, h.pn.o⟩, h.tk.alien hx (by omega) hu, h.lf⟩
    exact upd_all h.pn.u hu fun i e => by
      have e2 : i = x := e
      omega
end
theorem own_head {w : World} {B : Nat} {v : Value} {xs : List Int} (h : OwnV w B v xs) (hx : 0 < xs.length) :
    ∃ g cs c, v = .slice (some ⟨g, 0, none⟩) xs.length c ∧ w.heap[g]? = some (.cells cs 3 (0, 0)) ∧ ∀ j, j < xs.length → cs[j]? = (vals xs)[j]? := by
  obtain ⟨hl, h⟩ := h
  rcases h with ⟨h1, h2⟩ | ⟨g, cap, cur, rfl, hb, hg, hnc, hcm, hsz, htake⟩
  · omega
  · refine ⟨g, cur, cap, rfl, hg, fun j hj => ?_⟩
    have h9 : (cur.toList.take (xs.length * 1))[j]? = (vals xs)[j]? := by rw [htake]
    rw [List.getElem?_take, if_pos (by omega), Array.getElem?_toList] at h9
    exact h9
theorem of8 (W : World) : Calls Tryz.prog 19 #[.int .i64 8, .bool false] W fun e w' => ∃ (g1 g2 : Nat) (cs1 cs2 : Array Value) (c1 c2 : Nat), e = .returned (.tuple #[.agg #[.slice (some ⟨g1, 0, none⟩) 5 c1, .slice (some ⟨g2, 0, none⟩) 2 c2], .bool true]) ∧ w'.heap[g1]? = some (.cells cs1 3 (0, 0)) ∧ w'.heap[g2]? = some (.cells cs2 3 (0, 0)) ∧ (∀ j, j < 5 → cs1[j]? = some (.int .i64 (j : Int))) ∧ (cs2[0]? = some (.int .i64 5) ∧ cs2[1]? = some (.int .i64 7)) ∧ Upd noBlock W w' := by
  have h := of_in 8 false W (by decide) (by decide) (by decide)
  have e1 : dl false (8 - 3) = [0, 1, 2, 3, 4] := by decide
  have e2 : parL false 8 = [5, 7] := by decide
  rw [e1, e2] at h
  refine h.mono fun e w' ⟨v1, v2, he, o1, o2, hu⟩ => ?_
  obtain ⟨g1, cs1, c1, rfl, b1, f1⟩ := own_head o1 (by decide)
  obtain ⟨g2, cs2, c2, rfl, b2, f2⟩ := own_head o2 (by decide)
  refine ⟨g1, g2, cs1, cs2, c1, c2, he, b1, b2, fun j hj => ?_, ⟨f2 0 (by decide), f2 1 (by decide)⟩, hu⟩
  have hj' : j < 5 := hj
  rw [f1 j hj]
  match j, hj' with
  | 0, _ => rfl
  | 1, _ => rfl
  | 2, _ => rfl
  | 3, _ => rfl
  | 4, _ => rfl
theorem pages5 : Pages [0, 1, 2, 3, 4] := by
  intro k hk
  have hk' : k < 5 := hk
  match k, hk' with
  | 0, _ => exact ⟨0, rfl, by omega⟩
  | 1, _ => exact ⟨1, rfl, by omega⟩
  | 2, _ => exact ⟨2, rfl, by omega⟩
  | 3, _ => exact ⟨3, rfl, by omega⟩
  | 4, _ => exact ⟨4, rfl, by omega⟩
theorem members8 {W : World} {g pl g1 g2 f : Nat} {cs1 cs2 : Array Value} {c1 c2 k t : Nat} {F : Nat → ByteArray} (h : TK W g pl g1 g2 f cs1 cs2 c1 c2 k t F) (kk : Nat) (hk : kk < 2) :
    Calls Tryz.prog 20 #[.agg #[.slice (some ⟨g1, 0, none⟩) 5 c1, .slice (some ⟨g2, 0, none⟩) 2 c2], .int .i64 (kk : Int)] W fun e w' => ∃ v, e = .returned v ∧ Pr.OwnV w' W.heap.size v (mdL kk) ∧ Upd noBlock W w' := by
  have h9 := members_any (some ⟨g1, 0, none⟩) 5 c1 W.heap.size (.slice (some ⟨g2, 0, none⟩) 2 c2) [0, 1, 2, 3, 4] (kk : Int) W h.ints1 (Nat.le_refl _) pages5 (by decide)
  rw [show ml (kk : Int) [0, 1, 2, 3, 4] = mdL kk from md_ml ⟨kk, hk⟩] at h9
  exact h9
theorem mdL_len (kk : Nat) : (mdL kk).length ≤ 3 := by unfold mdL; split <;> decide
theorem OwnS.kt {W W' : World} {B : Nat} {v : Value} {xs : List ByteArray} (h : OwnS W B 9 v xs) (hk : KT 9 W W') : OwnS W' B 9 v xs := by
  obtain ⟨hl, h⟩ := h
  refine ⟨hl, ?_⟩
  rcases h with ⟨h1, h2⟩ | ⟨g, cap, cur, rfl, hb, hg, r⟩
  · exact .inl ⟨h1, h2⟩
  · exact .inr ⟨g, cap, cur, rfl, hb, hk g _ hg, r⟩
theorem int_grown {W W' : World} {g B : Nat} {a : Array Value} {v : Value} {xs : List ByteArray} (hi : W.heap[g]? = some (.cells a 3 (0, 0))) (hO : OwnS W B 9 v xs) (hg : W.grownBy W' v.ownBlock) : W'.heap[g]? = some (.cells a 3 (0, 0)) := by
  refine (hg.block g (lt_of_block hi) (fun e => ?_)).trans hi
  obtain ⟨hl, h⟩ := hO
  rcases h with ⟨rfl, h2⟩ | ⟨x, cap, cur, rfl, hb, hx, r⟩
  · cases e
  · have e2 : g = x := Option.some.inj e
    exact apart hi hx (by decide) e2
end Go.Proofs.YtjcmfaadoealgaaGreatDoor
