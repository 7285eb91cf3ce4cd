/- What makes codes, in numbers: its values at the first powers are 0. No Go in sight. -/
import Derived.Test.YtpfmdlmnmagkmaaHw
namespace Go.Proofs.Ytpfmdlmnmagkmaa
open Pm Gfm

def gv : List Nat := [1, 8219, 81073483, 802986049005, 5719866781435563, 70802422373250291595, 600861845307791167304061, 2475918012808473855665188261, 22023288022493040599844014848803]
def mv : List Nat := [8219, 9905, 10643, 10063, 12769, 9123, 12409, 8895]
theorem mp_val : ∀ i : Fin 8, mp i.val = mv.getD i.val 0 := by decide +kernel
theorem gv_step : ∀ i : Fin 8, cm (lst 128 (gv.getD i.val 0)) (mv.getD i.val 0) = gv.getD (i.val + 1) 0 := by decide +kernel
theorem gv_lt : ∀ i : Fin 9, gv.getD i.val 0 < 2 ^ 128 := by decide +kernel
theorem exps_128 (P : Nat) (h : P < 2 ^ 128) : exps P = lst 128 P := lst_up 128 top P h (by unfold top; omega)
theorem GG_val (i : Nat) (h : i ≤ 8) : GG i = gv.getD i 0 := by
  induction i with
  | zero => decide
  | succ i ih =>
    have e : GG (i + 1) = cm (exps (GG i)) (mp i) := rfl
    rw [e, ih (by omega), exps_128 _ (gv_lt ⟨i, by omega⟩), mp_val ⟨i, by omega⟩, gv_step ⟨i, by omega⟩]
/-- the value at the K-th power of x -/
def evs (K : Nat) : List Int → Nat | [] => 0 | e :: l => pw (trn ((K : Int) * e)) ^^^ evs K l
theorem evs_lt (K : Nat) (l : List Int) : evs K l < 8192 := by
  induction l with
  | nil => show 0 < 8192; omega
  | cons e l ih => exact xor_lt _ _ (pw_lt _) ih
theorem evs_append (K : Nat) (a b : List Int) : evs K (a ++ b) = evs K a ^^^ evs K b := by
  induction a with
  | nil => show evs K b = 0 ^^^ _; rw [Nat.zero_xor]
  | cons e a ih => show _ ^^^ evs K (a ++ b) = (_ ^^^ _) ^^^ _; rw [ih, Nat.xor_assoc]
theorem evs_take (K : Nat) (l : List Int) (k : Nat) (h : k < l.length) : evs K (l.take (k + 1)) = evs K (l.take k) ^^^ pw (trn ((K : Int) * l.getD k 0)) := by
  rw [List.take_succ_eq_append_getElem h, evs_append]
  congr 1
  show _ ^^^ 0 = _
  rw [Nat.xor_zero, List.getD_eq_getElem?_getD, List.getElem?_eq_getElem h]; rfl
theorem pw_trn (K n : Nat) : pw (trn ((K : Int) * (n : Int))) = pw (K * n) := by
  have e : trn ((K : Int) * (n : Int)) = (K * n) % 8191 := by
    rw [← Int.natCast_mul]
    generalize K * n = m
    unfold trn; omega
  rw [e, pw_mod]
/-- the same, one power more a round -/
def runA (P x : Nat) : Nat → Nat → Nat → Nat → Nat
  | 0, _, s, _ => s
  | f + 1, e, s, X => match (if P.testBit e then ((s - 1) ^^^ X) + 1 else s), mul X x with
    | s' + 1, q + 1 => runA P x f (e + 1) (s' + 1) (q + 1)
    | _, _ => 0
theorem runA_spec (P K : Nat) : ∀ f e S, S = evs K (lst e P) → runA P (pw K) f e (S + 1) (pw (K * e)) = evs K (lst (e + f) P) + 1 := by
  intro f
  induction f with
  | zero => intro e S h; show S + 1 = evs K (lst e P) + 1; rw [h]
  | succ f ih =>
    intro e S h
    have hm : mul (pw (K * e)) (pw K) = pw (K * (e + 1)) := by rw [mul_pw, Nat.mul_succ]
    have hl : lst (e + 1) P = if P.testBit e then (e : Int) :: lst e P else lst e P := rfl
    have hs : (if P.testBit e then ((S + 1 - 1) ^^^ pw (K * e)) + 1 else S + 1) = evs K (lst (e + 1) P) + 1 := by
      rw [hl]
      by_cases hb : P.testBit e = true
      · rw [if_pos hb, if_pos hb, Nat.add_sub_cancel]
        show _ = (pw (trn ((K : Int) * (e : Int))) ^^^ evs K (lst e P)) + 1
        rw [pw_trn, h, Nat.xor_comm]
      · rw [if_neg hb, if_neg hb, h]
    have hp := pw_pos (K * (e + 1))
    obtain ⟨q, hq⟩ : ∃ q, pw (K * (e + 1)) = q + 1 := ⟨pw (K * (e + 1)) - 1, by omega⟩
    unfold runA
    rw [hs, hm, hq]
    show runA P (pw K) f (e + 1) (evs K (lst (e + 1) P) + 1) (q + 1) = _
    rw [← hq, ih (e + 1) _ rfl]
    congr 3
    omega
theorem roots_run : ∀ T : Fin 8, ∀ K : Fin 16, K.val < 2 * (T.val + 1) → runA (gv.getD (T.val + 1) 0) (pw (K.val + 1)) 105 0 1 1 = 1 := by decide +kernel
theorem lst_105 : ∀ T : Fin 9, lst 128 (gv.getD T.val 0) = lst 105 (gv.getD T.val 0) := by decide +kernel
theorem roots_zero (T K : Nat) (hT1 : 1 ≤ T) (hT8 : T ≤ 8) (hK1 : 1 ≤ K) (hK2 : K ≤ 2 * T) : evs K (exps (GG T)) = 0 := by
  rw [GG_val T hT8, exps_128 _ (gv_lt ⟨T, by omega⟩), lst_105 ⟨T, by omega⟩]
  have h := roots_run ⟨T - 1, by omega⟩ ⟨K - 1, by omega⟩ (by show K - 1 < 2 * (T - 1 + 1); omega)
  have e1 : T - 1 + 1 = T := by omega
  have e2 : K - 1 + 1 = K := by omega
  simp only [e1, e2] at h
  have hs := runA_spec (gv.getD T 0) K 105 0 0 rfl
  rw [Nat.mul_zero] at hs
  have e3 : pw 0 = 1 := rfl
  rw [e3, Nat.zero_add, Nat.zero_add, h] at hs
  show evs K (lst 105 (gv.getD T 0)) = 0
  omega
end Go.Proofs.Ytpfmdlmnmagkmaa
