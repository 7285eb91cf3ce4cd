/- NandTorn: the chip of the law, plain, and its calls. -/
import Derived.Test.YtibkdoomnidndaaNo
namespace Go.Proofs.Ytibkdoomnidndaa
open Go.RowKit

def txt (k : Nat) : ByteArray := ⟨#[UInt8.ofNat (97 + k)]⟩
def ltr (k : Nat) : List UInt8 := [UInt8.ofNat (97 + k)]
/-- k pages of block 0 are written, and one of block 1 -/
structure TSt (M : Ch) (k n : Nat) : Prop where
  nb : M.nb = 2
  np : M.np = 8
  sz : M.sz = 1
  off : M.off = false
  left : M.left = 0
  most : M.most = 0
  fit : M.Fit n
  worn : ∀ b, (M.bk b).worn = false
  blank : ∀ p, k ≤ p → (M.bk 0).pg p = pg0
  done : ∀ p, p < k → (M.bk 0).pg p = ⟨1, false, ltr p⟩
  one : (M.bk 1).pg 0 = ⟨1, false, [122]⟩
/-- the pages of block 0 are P -/
structure RSt (M : Ch) (P : Nat → Pg) (n : Nat) : Prop where
  nb : M.nb = 2
  np : M.np = 8
  sz : M.sz = 1
  off : M.off = false
  most : M.most = 0
  fit : M.Fit n
  worn : ∀ b, (M.bk b).worn = false
  pgs : ∀ p, (M.bk 0).pg p = P p
  one : (M.bk 1).pg 0 = ⟨1, false, [122]⟩
def torn0 : Ch := (newCh 2 8 1).progM 1 0 [122]
theorem torn0_e : (0 : Int) = (newCh 2 8 1).progE 1 0 := by decide
theorem torn0_is : torn0 = (newCh 2 8 1).changed.setBk 1 (newBk.setPg 0 (pg0.write [122])) := rfl
theorem torn0_st : TSt torn0 0 1 := by
  have hf : torn0.Fit 1 := (newCh_fit 2 8 1).prog 1 0 [122]
  rw [torn0_is] at hf ⊢
  refine ⟨rfl, rfl, rfl, rfl, rfl, rfl, hf, fun b => ?_, fun p _ => rfl, fun p hp => absurd hp (Nat.not_lt_zero p), rfl⟩
  show (if b = 1 then _ else newBk).worn = false
  by_cases e : b = 1
  · rw [if_pos e]; rfl
  · rw [if_neg e]; rfl
theorem TSt.blankW {M : Ch} {k n : Nat} (h : TSt M k n) : blankFrom (M.bk 0) M.np k = true := blank_yes fun r hr _ => by rw [h.blank r hr]; rfl
theorem TSt.prog {M : Ch} {k n : Nat} (h : TSt M k n) : M.progE 0 k = 0 ∧ TSt (M.progM 0 k (ltr k)) (k + 1) (n + 1) := by
  have ht : M.torn = false := by unfold Ch.torn; rw [h.left]; rfl
  have hm : M.progM 0 k (ltr k) = M.changed.setBk 0 ((M.bk 0).setPg k (((M.bk 0).pg k).write (ltr k))) := by
    unfold Ch.progM; simp [h.off, h.worn 0, ht, h.blankW]
  have hf := h.fit.prog 0 k (ltr k)
  refine ⟨by unfold Ch.progE; simp [h.off, h.worn 0, ht, h.blankW], ?_⟩
  rw [hm] at hf ⊢
  refine ⟨h.nb, h.np, h.sz, ?_, ?_, h.most, hf, fun b => ?_, fun p hp => ?_, fun p hp => ?_, h.one⟩
  · show (M.left == 1) = false; rw [h.left]; rfl
  · show M.left - 1 = 0; rw [h.left]
  · show (if b = 0 then _ else M.bk b).worn = false
    by_cases e : b = 0
    · rw [if_pos e]; exact h.worn 0
    · rw [if_neg e]; exact h.worn b
  · show (if p = k then _ else (M.bk 0).pg p) = _
    rw [if_neg (by omega)]; exact h.blank p (by omega)
  · show (if p = k then _ else (M.bk 0).pg p) = _
    by_cases e : p = k
    · rw [if_pos e, h.blank k (Nat.le_refl _), e]; rfl
    · rw [if_neg e]; exact h.done p (by omega)
/-- behind the torn Program, the power on again -/
def tornP (W m : Nat) (p : Nat) : Pg := if p = W then (pg0.tear [116] m).mark else if 2 ≤ W % 4 ∧ 4 ≤ m ∧ p + 2 = W then ⟨2, false, []⟩ else if p < W then ⟨1, false, ltr p⟩ else pg0
theorem TSt.tear {M : Ch} {k n : Nat} (h : TSt M k n) (mode : Int) : (M.cutM 1 mode).progE 0 k = 20 ∧ ((M.cutM 1 mode).progM 0 k [116]).off = true ∧ RSt ((M.cutM 1 mode).progM 0 k [116]).onM (tornP k (cutMode mode)) (n + 1) := by
  have ht : (M.cutM 1 mode).torn = true := rfl
  have hb : blankFrom ((M.cutM 1 mode).bk 0) (M.cutM 1 mode).np k = true := h.blankW
  have ho : (M.cutM 1 mode).off = false := h.off
  have hw : ((M.cutM 1 mode).bk 0).worn = false := h.worn 0
  have hm : (M.cutM 1 mode).progM 0 k [116] = (M.cutM 1 mode).changed.setBk 0 (tearP (M.bk 0) k [116] (cutMode mode)) := by
    unfold Ch.progM; simp only [ho, hw, ht, hb, if_true, Bool.false_eq_true, if_false]; rfl
  have hf := ((h.fit.cut 1 mode (by omega)).prog 0 k [116]).on
  refine ⟨by unfold Ch.progE; simp [ho, hw, ht, hb], by rw [hm]; rfl, ?_⟩
  rw [hm] at hf ⊢
  refine ⟨h.nb, h.np, h.sz, rfl, h.most, hf, fun b => ?_, fun p => ?_, h.one⟩
  · show (if b = 0 then _ else M.bk b).worn = false
    by_cases e : b = 0
    · rw [if_pos e, (tearP_er _ _ _ _).2.2]; exact h.worn 0
    · rw [if_neg e]; exact h.worn b
  · show (tearP (M.bk 0) k [116] (cutMode mode)).pg p = _
    have hbl := h.blank k (Nat.le_refl _)
    unfold tearP tornP
    by_cases e2 : 2 ≤ k % 4 ∧ 4 ≤ cutMode mode
    · rw [if_pos e2]
      simp only [Bk.setPg]
      by_cases e : p = k
      · rw [if_neg (show ¬ p = k - 2 by omega), if_pos e, if_pos e, hbl]
      · by_cases e3 : p = k - 2
        · rw [if_pos e3, if_neg e, if_pos ⟨e2.1, e2.2, by omega⟩, h.done (k - 2) (by omega)]; rfl
        · rw [if_neg e3, if_neg e, if_neg e, if_neg e, if_neg (by omega)]
          by_cases e4 : p < k
          · rw [if_pos e4]; exact h.done p e4
          · rw [if_neg e4]; exact h.blank p (by omega)
    · rw [if_neg e2]
      simp only [Bk.setPg]
      by_cases e : p = k
      · rw [if_pos e, if_pos e, hbl]
      · rw [if_neg e, if_neg e, if_neg e, if_neg (by omega)]
        by_cases e4 : p < k
        · rw [if_pos e4]; exact h.done p e4
        · rw [if_neg e4]; exact h.blank p (by omega)
theorem RSt.read {M : Ch} {P : Nat → Pg} {n : Nat} (h : RSt M P n) (b : Nat) : RSt (M.readM b) P (n + 1) := by
  refine ⟨h.nb, h.np, h.sz, h.off, h.most, h.fit.read b, fun c => ?_, fun p => ?_, ?_⟩
  · show (if c = b then _ else M.bk c).worn = false
    by_cases e : c = b
    · rw [if_pos e]; exact h.worn b
    · rw [if_neg e]; exact h.worn c
  · show (if 0 = b then _ else M.bk 0).pg p = _
    by_cases e : 0 = b
    · rw [if_pos e]; subst e; exact h.pgs p
    · rw [if_neg e]; exact h.pgs p
  · show (if 1 = b then _ else M.bk 1).pg 0 = _
    by_cases e : 1 = b
    · rw [if_pos e]; subst e; exact h.one
    · rw [if_neg e]; exact h.one
theorem RSt.order {M : Ch} {W m n : Nat} (h : RSt M (tornP W m) n) (hW : W < 8) : M.progE 0 W = 21 := by
  have hb : blankFrom (M.bk 0) M.np W = false := blank_no (r := W) (Nat.le_refl _) (by rw [h.np]; exact hW) (by rw [h.pgs]; simp [tornP, Pg.blank, Pg.mark])
  unfold Ch.progE; simp [h.off, h.worn 0, hb]
theorem tornP_st (W m p : Nat) : (tornP W m p).st ≤ 2 := by
  unfold tornP
  split
  · unfold Pg.tear Pg.mark; split
    · simp [Pg.spoil]
    · split <;> simp [Pg.write, pg0]
  · split
    · simp
    · split <;> simp [pg0]

/-! the calls -/
theorem torn_prog (c bb : Nat) (pb : Nat → Nat) (M : Ch) (k n : Nat) (w : World) (h : ChipIn w c bb pb M) (hC : TSt M k n) (hn : n < 4611686018427387904) (hk : k < 8) :
    Calls Try.prog 15 #[.pointer (some ⟨c, 0, none⟩), .int .i64 0, .int .i64 (k : Int), .string (txt k)] w fun e w' => e = .returned (.int .i64 0) ∧ ChipIn w' c bb pb (M.progM 0 k (ltr k)) ∧ Upd (Own c bb pb 2) w w' := by
  have := program_at c bb pb M 0 (k : Int) 0 k n rfl rfl (txt k) (ltr k) rfl 0 hC.prog.1.symm w h hC.fit hn (by rw [hC.nb]; omega) (by rw [hC.np]; exact hk) (by rw [hC.sz]; rfl)
  rw [hC.nb] at this; exact this
theorem torn_cut (c bb : Nat) (pb : Nat → Nat) (M : Ch) (mode : Int) (w : World) (h : ChipIn w c bb pb M) (h1 : -9223372036854775808 ≤ mode) (h2 : mode ≤ 9223372036854775807) :
    Calls Try.prog 23 #[.pointer (some ⟨c, 0, none⟩), .int .i64 1, .int .i64 mode] w fun e w' => e = .returned (.tuple #[]) ∧ ChipIn w' c bb pb (M.cutM 1 mode) ∧ Upd (Own c bb pb 2) w w' :=
  (cut_any c bb pb M 1 mode w h (by omega) h1 h2).mono fun _ _ ⟨a, b, d⟩ => ⟨a, b, upd_own_c d⟩
theorem torn_tear (c bb : Nat) (pb : Nat → Nat) (M : Ch) (k n : Nat) (mode : Int) (w : World) (h : ChipIn w c bb pb (M.cutM 1 mode)) (hC : TSt M k n) (hn : n < 4611686018427387904) (hk : k < 8) :
    Calls Try.prog 15 #[.pointer (some ⟨c, 0, none⟩), .int .i64 0, .int .i64 (k : Int), .string ⟨#[116]⟩] w fun e w' => e = .returned (.int .i64 20) ∧ ChipIn w' c bb pb ((M.cutM 1 mode).progM 0 k [116]) ∧ Upd (Own c bb pb 2) w w' := by
  have := program_at c bb pb (M.cutM 1 mode) 0 (k : Int) 0 k n rfl rfl ⟨#[116]⟩ [116] rfl 20 (hC.tear mode).1.symm w h (hC.fit.cut 1 mode (by omega)) hn (by show 0 < M.nb; rw [hC.nb]; omega) (by show k < M.np; rw [hC.np]; exact hk) (by show _ = M.sz; rw [hC.sz]; rfl)
  rw [show (M.cutM 1 mode).nb = 2 from hC.nb] at this; exact this
theorem torn_on (c bb : Nat) (pb : Nat → Nat) (M : Ch) (w : World) (h : ChipIn w c bb pb M) :
    Calls Try.prog 24 #[.pointer (some ⟨c, 0, none⟩)] w fun e w' => e = .returned (.tuple #[]) ∧ ChipIn w' c bb pb M.onM ∧ Upd (Own c bb pb 2) w w' :=
  (on_any c bb pb M w h).mono fun _ _ ⟨a, b, d⟩ => ⟨a, b, upd_own_c d⟩
theorem torn_read (c bb : Nat) (pb : Nat → Nat) (M : Ch) (W m p n : Nat) (s : ByteArray) (hs : s = ⟨((tornP W m p).show 1).toArray⟩) (w : World) (h : ChipIn w c bb pb M) (hC : RSt M (tornP W m) n) (hn : n < 4611686018427387904) (hp : p < 8) :
    Calls Try.prog 17 #[.pointer (some ⟨c, 0, none⟩), .int .i64 0, .int .i64 (p : Int)] w fun e w' => e = .returned (.tuple #[.string s, .int .i64 0]) ∧ ChipIn w' c bb pb (M.readM 0) ∧ Upd (Own c bb pb 2) w w' := by
  have := read_in c bb pb M 0 (p : Int) 0 p n rfl rfl s (by rw [hs, hC.pgs, hC.sz]) w h hC.fit hn (by rw [hC.nb]; omega) (by rw [hC.np]; exact hp) (by rw [hC.sz]; omega) hC.off (.inl (by rw [hC.most]; omega)) (by rw [hC.pgs]; exact tornP_st _ _ _)
  rw [hC.nb] at this; exact this
theorem torn_read1 (c bb : Nat) (pb : Nat → Nat) (M : Ch) (W m n : Nat) (w : World) (h : ChipIn w c bb pb M) (hC : RSt M (tornP W m) n) (hn : n < 4611686018427387904) :
    Calls Try.prog 17 #[.pointer (some ⟨c, 0, none⟩), .int .i64 1, .int .i64 0] w fun e w' => e = .returned (.tuple #[.string ⟨#[122]⟩, .int .i64 0]) ∧ ChipIn w' c bb pb (M.readM 1) ∧ Upd (Own c bb pb 2) w w' := by
  have := read_in c bb pb M 1 0 1 0 n rfl rfl ⟨#[122]⟩ (by rw [hC.one, hC.sz]; rfl) w h hC.fit hn (by rw [hC.nb]; omega) (by rw [hC.np]; omega) (by rw [hC.sz]; omega) hC.off (.inl (by rw [hC.most]; omega)) (by rw [hC.one]; show 1 ≤ 2; omega)
  rw [hC.nb] at this; exact this
theorem torn_last (c bb : Nat) (pb : Nat → Nat) (M : Ch) (W m n : Nat) (w : World) (h : ChipIn w c bb pb M) (hC : RSt M (tornP W m) n) (hn : n < 4611686018427387904) (hW : W < 8) :
    Calls Try.prog 15 #[.pointer (some ⟨c, 0, none⟩), .int .i64 0, .int .i64 (W : Int), .string ⟨#[117]⟩] w fun e w' => e = .returned (.int .i64 21) ∧ Upd (Own c bb pb 2) w w' := by
  have := program_at c bb pb M 0 (W : Int) 0 W n rfl rfl ⟨#[117]⟩ [117] rfl 21 (hC.order hW).symm w h hC.fit hn (by rw [hC.nb]; omega) (by rw [hC.np]; exact hW) (by rw [hC.sz]; rfl)
  rw [hC.nb] at this
  exact this.mono fun e w' ⟨a, _, d⟩ => ⟨a, d⟩
theorem torn_first (c bb : Nat) (pb : Nat → Nat) (w : World) (h : ChipIn w c bb pb (newCh 2 8 1)) :
    Calls Try.prog 15 #[.pointer (some ⟨c, 0, none⟩), .int .i64 1, .int .i64 0, .string ⟨#[122]⟩] w fun e w' => e = .returned (.int .i64 0) ∧ ChipIn w' c bb pb torn0 ∧ Upd (Own c bb pb 2) w w' :=
  program_at c bb pb (newCh 2 8 1) 1 0 1 0 0 rfl rfl ⟨#[122]⟩ [122] rfl 0 torn0_e w h (newCh_fit 2 8 1) (by omega) (by show 1 < 2; omega) (by show 0 < 8; omega) rfl
end Go.Proofs.Ytibkdoomnidndaa
