/- The document's least polynomial is the product over the roots. Plain. -/
import Derived.Test.YtcmcjojjphhffaaPH
namespace Go.Proofs.Ytcmcjojjphhffaa
open Pm Gfm

theorem spn_all (R : List Nat) : ∀ n, Ech R → (∀ v, v < 2 ^ n → Spn R v) → n ≤ R.length := by
  induction R with
  | nil =>
    intro n _ h
    cases n with
    | zero => exact Nat.le_refl _
    | succ n =>
      have h1 : (1 : Nat) < 2 ^ (n + 1) := by have := Nat.two_pow_pos n; rw [Nat.pow_succ]; omega
      have h2 : (1 : Nat) = 0 := h 1 h1
      omega
  | cons x l ih =>
    intro n h hs
    cases n with
    | zero => exact Nat.zero_le _
    | succ n =>
      have hx0 := h.1 x List.mem_cons_self
      have hsm := ech_small h
      by_cases hx : x.log2 < n
      · exfalso
        have h1 := hs (2 ^ n) (Nat.pow_lt_pow_right (by omega) (by omega))
        have h2 : x < 2 ^ n := Nat.lt_of_lt_of_le Nat.lt_log2_self (Nat.pow_le_pow_right (by omega) hx)
        have h3 : 2 ^ x.log2 ≤ 2 ^ n := Nat.pow_le_pow_right (by omega) (by omega)
        rcases h1 with h1 | h1
        · have := hsm _ h1; omega
        · have h4 := Nat.lt_of_lt_of_le (hsm _ h1) h3
          have h5 := Nat.xor_lt_two_pow h4 h2
          rw [Nat.xor_assoc, Nat.xor_self, Nat.xor_zero] at h5
          omega
      · have := ih n (ech_tail h) (fun v hv => by
          rcases hs v (Nat.lt_of_lt_of_le hv (Nat.pow_le_pow_right (by omega) (by omega))) with h1 | h1
          · exact h1
          · exfalso
            have h2 := Nat.testBit_lt_two_pow (hsm _ h1)
            have h3 : v < 2 ^ x.log2 := Nat.lt_of_lt_of_le hv (Nat.pow_le_pow_right (by omega) (by omega))
            rw [Nat.testBit_xor, lead_bit x hx0, Nat.testBit_lt_two_pow h3] at h2
            cases h2)
        show n + 1 ≤ l.length + 1
        omega
theorem spn_ev (K d : Nat) (M : List Nat) (hM : ∀ x ∈ M, x < 2 ^ d) : ∀ v, Spn (M.map (ev K)) v → ∃ m, m < 2 ^ d ∧ v = ev K m := by
  induction M with
  | nil =>
    intro v hv
    have h0 : v = 0 := hv
    exact ⟨0, Nat.two_pow_pos _, by rw [h0]; show 0 = ev K 0; exact ((xor_zero_iff (ev K 0) (ev K 0)).2 rfl).symm.trans (ev_xor K 0 0).symm⟩
  | cons x l ih =>
    intro v hv
    have ih' := ih (fun y hy => hM y (List.mem_cons_of_mem _ hy))
    rcases hv with hv | hv
    · exact ih' v hv
    · obtain ⟨m, hm, e⟩ := ih' _ hv
      refine ⟨m ^^^ x, Nat.xor_lt_two_pow hm (hM x List.mem_cons_self), ?_⟩
      rw [ev_xor, ← e, Nat.xor_assoc, Nat.xor_self, Nat.xor_zero]
theorem mul_lst (K n m : Nat) : mul (evs K (lst n m)) (pw K) = evs K (lst (n + 1) (2 * m)) := by
  induction n with
  | zero =>
    have e : evs K (lst 1 (2 * m)) = 0 := by
      rw [evs_lst_succ]
      have : (2 * m).testBit 0 = false := by simp
      rw [if_neg (by rw [this]; simp)]
      show (0 : Nat) ^^^ 0 = 0
      rfl
    rw [e]
    show mul 0 (pw K) = 0
    rw [mul_comm _ _ (by omega) (pw_lt _), mul_zero]
  | succ n ih =>
    have e : (2 * m).testBit (n + 1) = m.testBit n := by
      rw [Nat.mul_comm, Nat.testBit_succ]
      simp
    rw [evs_lst_succ, xor_mul _ _ _ (by split; exact pw_lt _; omega) (evs_lt _ _), ih, evs_lst_succ K (n + 1), e]
    congr 1
    split
    · rw [mul_pw]; rfl
    · rw [mul_comm _ _ (by omega) (pw_lt _), mul_zero]
theorem spn_pw (K D : Nat) (hD : D ≤ 13) (h0 : (ez (pw K) D).1 = 0) (h : ∀ j, j < D → (ez (pw K) j).1 ≠ 0) (i : Nat) : Spn (el (pw K) D).1 (pw (K * i)) := by
  have hall : ∀ j, j ≤ D → Spn (el (pw K) D).1 (pw (K * j)) := fun j hj => by
    rcases Nat.lt_or_ge j D with h1 | h1
    · exact (el_ech K D h).2 j h1
    · have := ez_spn (pw K) D
      rw [h0, Nat.zero_xor, el_p] at this
      rw [show j = D by omega]; exact this
  have hl : ∀ n m, n ≤ D + 1 → Spn (el (pw K) D).1 (evs K (lst n m)) := by
    intro n m
    induction n with
    | zero => intro _; exact spn_zero _
    | succ n ih =>
      intro hn
      rw [evs_lst_succ]
      refine spn_xor _ _ _ ?_ (ih (by omega))
      split
      · exact hall n (by omega)
      · exact spn_zero _
  induction i with
  | zero => exact hall 0 (Nat.zero_le _)
  | succ i ih =>
    obtain ⟨h1, h2⟩ := el_ev K D (by omega)
    rw [h1] at ih
    obtain ⟨m, hm, e⟩ := spn_ev K D _ h2 _ ih
    have e2 : pw (K * (i + 1)) = mul (pw (K * i)) (pw K) := by rw [mul_pw]; rfl
    rw [e2, e]
    show Spn _ (mul (evs K (lst 14 m)) (pw K))
    rw [lst_up D 14 m hm (by omega), mul_lst]
    exact hl (D + 1) _ (Nat.le_refl _)
def invR' (x : Nat) : Nat → Nat → Nat
  | 0, a => a
  | n + 1, a => match a * a * x % 8191 with | 0 => 0 | q + 1 => invR' x n (q + 1)
def invC (x : Nat) : Bool := match invR' x 11 1 with | 0 => false | a + 1 => (((a + 1) * (a + 1) % 8191) * ((a + 1) * (a + 1) % 8191) % 8191 * x % 8191) * x % 8191 == 1
def invD : Nat → Nat → Bool
  | _, 0 => true
  | s, n + 1 => match invC (s + n + 1) with | true => invD s n | false => false
theorem invD_spec (s n : Nat) (h : invD s n = true) : ∀ x, s < x → x ≤ s + n → ∃ y, y * x % 8191 = 1 := by
  induction n with
  | zero => intro x h1 h2; omega
  | succ n ih =>
    unfold invD at h
    split at h
    · rename_i hc
      intro x h1 h2
      rcases Nat.lt_or_ge x (s + n + 1) with h3 | h3
      · exact ih h x h1 (by omega)
      · obtain rfl : x = s + n + 1 := by omega
        unfold invC at hc
        split at hc
        · cases hc
        · exact ⟨_, by simpa using hc⟩
    · cases h
set_option maxRecDepth 100000 in
theorem invD_run : ∀ a : Fin 63, invD (130 * a.val) 130 = true := by decide +kernel
theorem inverse (K : Nat) (h0 : 0 < K) (h : K < 8191) : ∃ y, y * K % 8191 = 1 := by
  have h1 : (K - 1) / 130 < 63 := by omega
  exact invD_spec _ _ (invD_run ⟨(K - 1) / 130, h1⟩) K (by show 130 * ((K - 1) / 130) < K; omega) (by show K ≤ 130 * ((K - 1) / 130) + 130; omega)
theorem all_13 (K D : Nat) (hK : 0 < K) (hK2 : K < 8191) (hD : D ≤ 13) (h0 : (ez (pw K) D).1 = 0) (h : ∀ j, j < D → (ez (pw K) j).1 ≠ 0) : D = 13 := by
  obtain ⟨y, hy⟩ := inverse K hK hK2
  have hs := spn_pw K D hD h0 h
  obtain ⟨h1, _⟩ := el_ech K D h
  have := spn_all _ 13 h1 (fun v hv => by
    by_cases hv0 : v = 0
    · rw [hv0]; exact spn_zero _
    · obtain ⟨m, hm, rfl⟩ := pw_all v (by omega) hv
      have e : pw (K * (y * m)) = pw m := by
        rw [← pw_mod (K * (y * m)), ← Nat.mul_assoc, Nat.mul_comm K y, Nat.mul_mod, hy, Nat.one_mul, Nat.mod_mod, pw_mod]
      rw [← e]; exact hs _)
  rw [(el_length _ _).1] at this
  omega
theorem one_ez : (ez (pw 0) 0).1 ≠ 0 ∧ (ez (pw 0) 1).1 = 0 := by decide +kernel
/-- the document's answer is the program's -/
theorem mres_mpol (K J : Nat) (hK : K < 8191) (h1 : 1 ≤ J) (hJ : J ≤ 13) (h : rt K J = rt K 0) (hf : ∀ i, 1 ≤ i → i < J → rt K i ≠ rt K 0) : mres (pw K) 0 14 = mpol K J := by
  obtain ⟨b1, b2, _⟩ := mpol_bits K J h1 hJ h
  have hz : evs K (lst 14 (mpol K J)) = 0 := by
    have h2 := (mpol_zero K J K h1 hJ h).2 ⟨0, by omega, rfl⟩
    have h3 : mpol K J < 2 ^ 14 := Nat.lt_of_lt_of_le b2 (Nat.pow_le_pow_right (by omega) (by omega))
    rw [← h2]
    show _ = evs K (lst top _)
    rw [lst_up 14 top _ h3 (by unfold top; omega)]
  have hx : mpol K J ^^^ 2 ^ J < 2 ^ J := by
    have hb : (mpol K J).testBit J = true := Nat.testBit_of_two_pow_le_and_two_pow_add_one_gt b1 b2
    refine Nat.lt_pow_two_of_testBit _ fun j hj => ?_
    rw [Nat.testBit_xor, Nat.testBit_two_pow]
    rcases Nat.eq_or_lt_of_le hj with h4 | h4
    · rw [← h4, hb]; simp
    · rw [Nat.testBit_lt_two_pow (Nat.lt_of_lt_of_le b2 (Nat.pow_le_pow_right (by omega) h4))]
      simp; omega
  have hDJ : ∃ D, D = J ∧ D ≤ 13 ∧ (ez (pw K) D).1 = 0 ∧ ∀ j, j < D → (ez (pw K) j).1 ≠ 0 := by
    by_cases hK0 : K = 0
    · subst hK0
      have hJ1 : J = 1 := by
        rcases Nat.lt_or_ge 1 J with h2 | h2
        · exact absurd (by rw [rt_pw, rt_pw]) (hf 1 (Nat.le_refl _) h2)
        · omega
      refine ⟨1, hJ1.symm, by omega, one_ez.2, fun j hj => ?_⟩
      obtain rfl : j = 0 := by omega
      exact one_ez.1
    · obtain ⟨D, d1, d2, d3⟩ := found K
      have hD := all_13 K D (by omega) hK d1 d2 d3
      refine ⟨D, ?_, d1, d2, d3⟩
      rcases Nat.lt_or_ge J D with h2 | h2
      · exfalso
        have h3 : mpol K J < 2 ^ D := Nat.lt_of_lt_of_le b2 (Nat.pow_le_pow_right (by omega) h2)
        have h4 := free K D d3 _ h3 (by rw [← lst_up D 14 _ h3 (by omega)]; exact hz)
        have := Nat.two_pow_pos J
        omega
      · omega
  obtain ⟨D, rfl, d1, d2, d3⟩ := hDJ
  exact mres_one K D _ d1 d2 d3 hx hz
end Go.Proofs.Ytcmcjojjphhffaa
