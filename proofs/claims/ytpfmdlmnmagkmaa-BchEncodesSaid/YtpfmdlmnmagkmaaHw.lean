/- Walks over package poly: Generator. -/
import Derived.Test.YtpfmdlmnmagkmaaHv
namespace Go.Proofs.Ytpfmdlmnmagkmaa
open Go.RowKit Pm Gfm

/-- the squares of the first odd powers come back behind thirteen rounds, no sooner -/
def slowB (K : Nat) : Nat → Bool | 0 => true | j + 1 => slowB K j && (j == 0 || !(rt K j == rt K 0))
theorem slowB_spec (K n : Nat) (h : slowB K n = true) : ∀ j, 1 ≤ j → j < n → rt K j ≠ rt K 0 := by
  induction n with
  | zero => intro j _ h; omega
  | succ n ih =>
    rw [slowB, Bool.and_eq_true] at h
    intro j h1 h2
    rcases Nat.lt_or_ge j n with h3 | h3
    · exact ih h.1 j h1 h3
    · obtain rfl : j = n := by omega
      intro e
      have := h.2
      rw [e] at this
      simp at this
      omega
theorem odd_slow : ∀ i : Fin 8, slowB (2 * i.val + 1) 13 = true := by decide +kernel
theorem odd_13 (i : Nat) (h : i < 8) (J : Nat) (h1 : 1 ≤ J) (h2 : J ≤ 13) (h3 : rt (2 * i + 1) J = rt (2 * i + 1) 0) : J = 13 := by
  rcases Nat.lt_or_ge J 13 with h4 | h4
  · exact absurd h3 (slowB_spec _ 13 (odd_slow ⟨i, h⟩) J h1 h4)
  · omega
/-- their least polynomials -/
def mp (i : Nat) : Nat := mpol (2 * i + 1) 13
theorem mp_deg : ∀ i : Fin 8, 2 ^ 13 ≤ mp i.val ∧ mp i.val < 2 ^ 14 := by decide +kernel
/-- what makes codes -/
def GG : Nat → Nat | 0 => gat [0] | i + 1 => pmul (GG i) (mp i)
theorem GG_deg (i : Nat) (h : i ≤ 8) : 2 ^ (13 * i) ≤ GG i ∧ GG i < 2 ^ (13 * i + 1) := by
  induction i with
  | zero => decide
  | succ i ih =>
    obtain ⟨h1, h2⟩ := ih (by omega)
    obtain ⟨h3, h4⟩ := mp_deg ⟨i, by omega⟩
    have := pmul_deg (GG i) (mp i) (13 * i) 13 h1 h2 h3 h4 (by omega)
    rw [show 13 * (i + 1) = 13 * i + 13 by omega]
    exact this
theorem GG_top (i : Nat) (h : i ≤ 8) : GG i < 2 ^ top := Nat.lt_of_lt_of_le (GG_deg i h).2 (Nat.pow_le_pow_right (by omega) (by unfold top; omega))
/-- a polynomial in memory, beyond what was there at first -/
def GP (w w' : World) (v : Value) (P : Nat) : Prop := ∃ p n c, v = .slice p n c ∧ Ints w' w'.heap.size p n (exps P) ∧ n ≤ maxLen ∧ n ≤ c ∧ ∀ g, p.map Addr.block = some g → w.heap.size ≤ g
theorem own_cap {w : World} {base e n m k : Nat} {a : Option Addr} {xs : List Value} (h : w.ownsRow base e 1 (.slice a m k) n xs) : n ≤ k := by
  obtain ⟨_, h⟩ := h
  rcases h with ⟨_, rfl⟩ | ⟨g, cap, cur, e, _, _, h, _⟩
  · exact Nat.zero_le _
  · cases e; exact h
theorem PolyV.gp {w0 w w' : World} {v : Value} {P : Nat} (h : PolyV w w' v P) (hs : w0.heap.size ≤ w.heap.size) : GP w0 w' v P := by
  obtain ⟨a, c, rfl, h1, h2, h3⟩ := own_ints h.1
  exact ⟨a, _, c, rfl, h1, h2, own_cap h.1, fun g hg => Nat.le_trans hs (h3 g hg).1⟩
attribute [local irreducible] Pm.exps pmul mp GG mpol

set_option maxRecDepth 20000 in
set_option maxHeartbeats 1600000 in
theorem generator_any (b : Spt) (n : Int) (t : Nat) (w : World) (h : Fld w b n) (ht1 : 1 ≤ t) (ht8 : t ≤ 8) :
    Calls Try.prog 32 #[.pointer (some ⟨b.blk, b.off, none⟩), .int .i64 (t : Int)] w fun e w' => ∃ v, e = .returned (.tuple #[v, .bool true]) ∧ GP w w' v (GG t) ∧ Fld w' b n ∧ Upd (oneBlock b.blk) w w' := by
  have hbl := h.lt
  have HF := Lib.hid h
  have hun : Upd noBlock w (w.alloc (.cells #[.int .i64 0] 3)) := (Upd.refl _ _).alloc _
  have HUN := Lib.hid hun
  have HI := Lib.hid ((ints1 w 0).more (show w.heap.size + 1 ≤ (w.alloc (.cells #[.int .i64 0] 3)).heap.size by simp))
  have HG0 : Hid (gat [0] = GG 0) := by show _ = _; unfold GG; rfl
  have t1 : decide ((t : Int) < 1) = false := decide_eq_false (by omega)
  have t2 : decide ((8 : Int) < (t : Int)) = false := decide_eq_false (by omega)
  clear h hun
  go_enter Try.func32, Try.ntmps32
  go_wp2_with fail
  refine (of_any _ 1 1 _ [0] _ HI.out (Nat.le_refl _) (by unfold maxLen; omega)).mono ?_
  rintro e w1 ⟨v1, rfl, hv1, hu1⟩
  rw [HG0.out] at hv1
  have HV1 : Hid (GP w w1 v1 (GG 0)) := hv1.gp (by simp)
  have HU1 := Lib.hid ((HUN.out.trans hu1).one (b := b.blk))
  have HF1 := Lib.hid (HF.out.grow (HUN.out.trans hu1))
  clear hv1 hu1 HF HI HUN t1 t2
  go_wp2_with fail
  go_loopw [6, 7] (fun v k wr => ∃ i : Nat, i ≤ t ∧ k = .int .i64 (2 * (i : Int) + 1) ∧ Hid (GP w wr v (GG i)) ∧ Hid (Fld wr b n) ∧ Hid (Upd (oneBlock b.blk) w wr)) (fun _ k _ => (17 - intOf k).toNat)
  case atStart => exact ⟨0, Nat.zero_le _, rfl, HV1, HF1, HU1⟩
  case round =>
    clear HV1 HF1 HU1
    obtain ⟨i, hi, rfl, HV, HF, HU⟩ := hrel
    by_cases h0 : i < t
    · obtain ⟨p, m, c, rfl, hi1, hm, _, hg⟩ := HV.out
      have HIP := Lib.hid hi1
      have HPG := Lib.hid hg
      have hlt : 2 * (i : Int) + 1 < 2 * (t : Int) := by omega
      have etr : trn (2 * (i : Int) + 1) = 2 * i + 1 := by unfold trn; omega
      have HM := Lib.hid (minimal_any b n (2 * (i : Int) + 1) wr HF.out)
      rw [etr] at HM
      have h8 : i < 8 := by omega
      have HH8 := Lib.hid h8
      clear hi1 hg etr h8 HF HV
      go_wp2_with fail
      refine HM.out.mono ?_
      rintro e w2 ⟨J, v2, hJ1, hJ2, hJ3, _, rfl, hv2, hr2, hu2⟩
      obtain rfl := odd_13 i HH8.out J hJ1 hJ2 hJ3
      have hv3 : PolyV wr w2 v2 (mp i) := by unfold mp; exact hv2
      obtain ⟨p2, c2, rfl, hi2, m2, _⟩ := own_ints hv3.1
      have HI2 := Lib.hid hi2
      have HIP2 := Lib.hid ((HIP.out.upd hu2 (Nat.le_refl _) (fun g hg _ e => by
        have e' : g = b.blk := e
        have := HPG.out g hg
        omega)).more hu2.size)
      have HF2 := Lib.hid hr2.fld
      have HU2 := Lib.hid (HU.out.trans hu2)
      have d1 := GG_deg i (by have := HH8.out; omega)
      have d2 := mp_deg ⟨i, HH8.out⟩
      have g1 : gat (exps (GG i)) = GG i := gat_exps _ (GG_top i (by have := HH8.out; omega))
      have g2 : gat (exps (mp i)) = mp i := gat_exps _ hv3.2
      have HMUL := Lib.hid (pmul_ok p m c w2.heap.size (exps (GG i)) p2 _ c2 w2.heap.size (exps (mp i)) w2 HIP2.out (Nat.le_refl _) hm HI2.out (Nat.le_refl _) m2 (13 * i) 13 (by rw [g1]; exact d1.1) (by rw [g1]; exact d1.2) (by rw [g2]; exact d2.1) (by rw [g2]; exact d2.2) (by have := HH8.out; omega))
      rw [g1, g2] at HMUL
      have HGS : Hid (pmul (GG i) (mp i) = GG (i + 1)) := by show _ = _; conv => rhs; unfold GG
      clear hv2 hv3 hi2 hr2 hu2 hJ1 hJ2 hJ3 d1 d2 g1 g2
      go_wp2_with fail
      refine HMUL.out.mono ?_
      rintro e w3 ⟨v3, rfl, hv3, hu3⟩
      rw [HGS.out] at hv3
      have HV3 : Hid (GP w w3 v3 (GG (i + 1))) := hv3.gp HU2.out.size
      have HF3 := Lib.hid (HF2.out.grow hu3)
      have HU3 := Lib.hid (HU2.out.trans hu3.one)
      clear hv3 hu3
      go_wp2_with fail
      go_roundw
      case rel => exact ⟨i + 1, by omega, by go_num, HV3, HF3, HU3⟩
      case measure => simp [intOf]; omega
    · obtain rfl : i = t := by omega
      have hlt : ¬ (2 * (i : Int) + 1 < 2 * (i : Int)) := by omega
      go_wp2_with fail
      go_ret2
      exact ⟨_, rfl, HV.out, HF.out, HU.out⟩
end Go.Proofs.Ytpfmdlmnmagkmaa
