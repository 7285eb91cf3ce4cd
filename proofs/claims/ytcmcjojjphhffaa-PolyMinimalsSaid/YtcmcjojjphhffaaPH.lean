/- The document's elimination: it finds the least relation. Plain. -/
import Derived.Test.YtcmcjojjphhffaaPG
import Derived.Test.YtcmcjojjphhffaaPD
namespace Go.Proofs.Ytcmcjojjphhffaa
open Pm Gfm

theorem evs_lst_succ (K n m : Nat) : evs K (lst (n + 1) m) = (if m.testBit n then pw (K * n) else 0) ^^^ evs K (lst n m) := by
  have e : lst (n + 1) m = if m.testBit n then (n : Int) :: lst n m else lst n m := rfl
  rw [e]
  split
  · show pw (trn ((K : Int) * (n : Int))) ^^^ _ = _
    rw [pw_trn]
  · rw [Nat.zero_xor]
theorem evs_lst_xor (K n a b : Nat) : evs K (lst n (a ^^^ b)) = evs K (lst n a) ^^^ evs K (lst n b) := by
  induction n with
  | zero => show (0 : Nat) = 0 ^^^ 0; rw [Nat.xor_self]
  | succ n ih =>
    rw [evs_lst_succ, evs_lst_succ, evs_lst_succ, ih, Nat.testBit_xor]
    generalize evs K (lst n a) = A
    generalize evs K (lst n b) = B
    generalize pw (K * n) = p
    cases a.testBit n <;> cases b.testBit n
    · simp
    · show p ^^^ (A ^^^ B) = (0 ^^^ A) ^^^ (p ^^^ B)
      rw [Nat.zero_xor, ← Nat.xor_assoc, Nat.xor_comm p A, Nat.xor_assoc]
    · show p ^^^ (A ^^^ B) = (p ^^^ A) ^^^ (0 ^^^ B)
      rw [Nat.zero_xor, Nat.xor_assoc]
    · show 0 ^^^ (A ^^^ B) = (p ^^^ A) ^^^ (p ^^^ B)
      rw [Nat.zero_xor, Nat.xor_comm p A, Nat.xor_assoc, ← Nat.xor_assoc p p, Nat.xor_self, Nat.zero_xor]
theorem evs_lst_pow (K n j : Nat) : evs K (lst n (2 ^ j)) = if j < n then pw (K * j) else 0 := by
  induction n with
  | zero => rfl
  | succ n ih =>
    rw [evs_lst_succ, ih, Nat.testBit_two_pow]
    by_cases h : j = n
    · subst h; simp
    · by_cases h2 : j < n
      · rw [if_pos h2, if_pos (show j < n + 1 by omega), if_neg (by simpa using h), Nat.zero_xor]
      · rw [if_neg h2, if_neg (show ¬ j < n + 1 by omega), if_neg (by simpa using h), Nat.zero_xor]
def ev (K m : Nat) : Nat := evs K (lst 14 m)
theorem ev_xor (K a b : Nat) : ev K (a ^^^ b) = ev K a ^^^ ev K b := evs_lst_xor K 14 a b
theorem el_p (K d : Nat) : (el (pw K) d).2.2 = pw (K * d) := by
  induction d with
  | zero => rfl
  | succ d ih =>
    rw [el_succ]
    show mul (el (pw K) d).2.2 (pw K) = _
    rw [ih, mul_pw]; rfl
theorem getD_map (l : List Nat) (K k : Nat) (h : k < l.length) : (l.map (ev K)).getD k 0 = ev K (l.getD k 0) := by
  rw [List.getD_eq_getElem?_getD, List.getElem?_map, List.getD_eq_getElem?_getD, List.getElem?_eq_getElem h]; rfl
theorem rd_ev (K d : Nat) (M : List Nat) (m k : Nat) (hM : ∀ x ∈ M, x < 2 ^ d) (hk : k ≤ M.length) :
    (rd (M.map (ev K)) M (ev K m) m k).1 = ev K (rd (M.map (ev K)) M (ev K m) m k).2 ∧ (rd (M.map (ev K)) M (ev K m) m k).2 ^^^ m < 2 ^ d := by
  induction k with
  | zero => exact ⟨rfl, by show m ^^^ m < _; rw [Nat.xor_self]; exact Nat.two_pow_pos _⟩
  | succ k ih =>
    obtain ⟨h1, h2⟩ := ih (by omega)
    rw [rd_succ]
    split
    · refine ⟨?_, ?_⟩
      · show _ ^^^ _ = ev K (_ ^^^ _)
        rw [ev_xor, ← h1, getD_map _ _ _ (by omega)]
      · show (_ ^^^ M.getD k 0) ^^^ m < _
        rw [Nat.xor_assoc, Nat.xor_comm _ m, ← Nat.xor_assoc]
        exact Nat.xor_lt_two_pow h2 (hM _ (getD_mem (by omega)).1)
    · exact ⟨h1, h2⟩
theorem ins_map (l : List Nat) (K i m : Nat) : (ins l i m).map (ev K) = ins (l.map (ev K)) i (ev K m) := by simp [ins, List.map_take, List.map_drop]
theorem el_ev (K d : Nat) (hd : d ≤ 14) : (el (pw K) d).1 = (el (pw K) d).2.1.map (ev K) ∧ (∀ x ∈ (el (pw K) d).2.1, x < 2 ^ d) := by
  induction d with
  | zero => exact ⟨rfl, fun x hx => (by cases hx)⟩
  | succ d ih =>
    obtain ⟨h1, h2⟩ := ih (by omega)
    have hp : ev K (2 ^ d) = (el (pw K) d).2.2 := by
      rw [el_p]; show evs K (lst 14 (2 ^ d)) = _; rw [evs_lst_pow, if_pos (by omega)]
    have hr := rd_ev K d (el (pw K) d).2.1 (2 ^ d) d h2 (by rw [(el_length _ _).2]; exact Nat.le_refl _)
    rw [← h1, hp] at hr
    have hz : (ez (pw K) d).1 = ev K (ez (pw K) d).2 := hr.1
    have ht : (ez (pw K) d).2 ^^^ 2 ^ d < 2 ^ d := hr.2
    rw [el_succ]
    refine ⟨?_, ?_⟩
    · show ins _ _ _ = (ins _ _ _).map (ev K)
      rw [ins_map, ← h1, hz]
    · have hb : (ez (pw K) d).2 < 2 ^ (d + 1) := by
        have h3 : (ez (pw K) d).2 ^^^ 2 ^ d < 2 ^ (d + 1) := Nat.lt_of_lt_of_le ht (Nat.pow_le_pow_right (by omega) (by omega))
        have h4 := Nat.xor_lt_two_pow h3 (Nat.pow_lt_pow_right (a := 2) (by omega) (show d < d + 1 by omega))
        rwa [Nat.xor_assoc, Nat.xor_self, Nat.xor_zero] at h4
      intro x hx
      have hx2 : x ∈ ins (el (pw K) d).2.1 (posn (el (pw K) d).1 (ez (pw K) d).1) (ez (pw K) d).2 := hx
      simp only [ins, List.mem_append, List.mem_singleton] at hx2
      rcases hx2 with (hx2 | rfl) | hx2
      · exact Nat.lt_of_lt_of_le (h2 x (List.mem_of_mem_take hx2)) (Nat.pow_le_pow_right (by omega) (by omega))
      · exact hb
      · exact Nat.lt_of_lt_of_le (h2 x (List.mem_of_mem_drop hx2)) (Nat.pow_le_pow_right (by omega) (by omega))
theorem ez_ev (K d : Nat) (hd : d ≤ 13) : (ez (pw K) d).1 = ev K (ez (pw K) d).2 ∧ (ez (pw K) d).2 ^^^ 2 ^ d < 2 ^ d := by
  obtain ⟨h1, h2⟩ := el_ev K d (by omega)
  have hp : ev K (2 ^ d) = (el (pw K) d).2.2 := by
    rw [el_p]; show evs K (lst 14 (2 ^ d)) = _; rw [evs_lst_pow, if_pos (by omega)]
  have hr := rd_ev K d (el (pw K) d).2.1 (2 ^ d) d h2 (by rw [(el_length _ _).2]; exact Nat.le_refl _)
  rw [← h1, hp] at hr
  exact hr
theorem ez_bits (r d : Nat) (h : Ech (el r d).1) : ∀ x ∈ (el r d).1, (ez r d).1.testBit x.log2 = false := by
  intro x hx
  obtain ⟨j, hj, rfl⟩ := List.getElem_of_mem hx
  have hl := (el_length r d).1
  have := rd_bits (el r d).1 (el r d).2.1 (el r d).2.2 (2 ^ d) d h (by omega) j (by omega)
  rwa [(getD_mem hj).2] at this
theorem ez_spn (r d : Nat) : Spn (el r d).1 ((ez r d).1 ^^^ (el r d).2.2) := rd_spn _ _ _ _ _ (by rw [(el_length r d).1]; exact Nat.le_refl _)
theorem el_ech (K d : Nat) (h : ∀ j, j < d → (ez (pw K) j).1 ≠ 0) : Ech (el (pw K) d).1 ∧ ∀ j, j < d → Spn (el (pw K) d).1 (pw (K * j)) := by
  induction d with
  | zero => exact ⟨⟨fun x hx => (by cases hx), List.Pairwise.nil⟩, fun j hj => absurd hj (by omega)⟩
  | succ d ih =>
    obtain ⟨h1, h2⟩ := ih (fun j hj => h j (by omega))
    have e : (el (pw K) (d + 1)).1 = ins (el (pw K) d).1 (posn (el (pw K) d).1 (ez (pw K) d).1) (ez (pw K) d).1 := by rw [el_succ]
    have hsub : ∀ v, Spn (el (pw K) d).1 v → Spn (el (pw K) (d + 1)).1 v := spn_sub _ _ fun x hx => spn_mem _ _ (by
      rw [e]
      generalize posn (el (pw K) d).1 (ez (pw K) d).1 = i
      rw [← List.take_append_drop i (el (pw K) d).1] at hx
      simp only [ins, List.mem_append, List.mem_singleton] at hx ⊢
      rcases hx with hx | hx
      · exact .inl (.inl hx)
      · exact .inr hx)
    have hz : Spn (el (pw K) (d + 1)).1 (ez (pw K) d).1 := spn_mem _ _ (by rw [e]; simp [ins])
    refine ⟨?_, fun j hj => ?_⟩
    · rw [e]; exact ech_ins _ _ h1 (h d (by omega)) (ez_bits _ _ h1)
    · rcases Nat.lt_or_ge j d with h3 | h3
      · exact hsub _ (h2 j h3)
      · obtain rfl : j = d := by omega
        have := spn_xor _ _ _ hz (hsub _ (ez_spn (pw K) j))
        rwa [← Nat.xor_assoc, Nat.xor_self, Nat.zero_xor, el_p] at this
theorem ez_zero (K d : Nat) (h : ∀ j, j < d → (ez (pw K) j).1 ≠ 0) (hs : Spn (el (pw K) d).1 (pw (K * d))) : (ez (pw K) d).1 = 0 := by
  obtain ⟨h1, _⟩ := el_ech K d h
  refine red_zero _ h1 _ ?_ (ez_bits _ _ h1)
  have := spn_xor _ _ _ (ez_spn (pw K) d) hs
  rwa [el_p, Nat.xor_assoc, Nat.xor_self, Nat.xor_zero] at this
theorem spn_lst (K d m n : Nat) (h : ∀ j, j < d → (ez (pw K) j).1 ≠ 0) (hn : n ≤ d) : Spn (el (pw K) d).1 (evs K (lst n m)) := by
  induction n with
  | zero => exact spn_zero _
  | succ n ih =>
    rw [evs_lst_succ]
    refine spn_xor _ _ _ ?_ (ih (by omega))
    split
    · exact (el_ech K d h).2 n (by omega)
    · exact spn_zero _
/-- no relation among the powers before the first that hangs on them -/
theorem free (K d : Nat) (h : ∀ j, j < d → (ez (pw K) j).1 ≠ 0) : ∀ m, m < 2 ^ d → evs K (lst d m) = 0 → m = 0 := by
  induction d with
  | zero => intro m hm _; simpa using hm
  | succ d ih =>
    intro m hm he
    have ih' := ih (fun j hj => h j (by omega))
    rw [evs_lst_succ] at he
    by_cases hb : m.testBit d = true
    · rw [if_pos hb] at he
      have h1 := spn_lst K d m d (fun j hj => h j (by omega)) (Nat.le_refl _)
      rw [← (xor_zero_iff _ _).1 he] at h1
      exact absurd (ez_zero K d (fun j hj => h j (by omega)) h1) (h d (by omega))
    · rw [if_neg hb, Nat.zero_xor] at he
      refine ih' m ?_ he
      refine Nat.lt_pow_two_of_testBit m fun j hj => ?_
      rcases Nat.eq_or_lt_of_le hj with h4 | h4
      · rw [← h4]; simpa using hb
      · exact Nat.testBit_lt_two_pow (Nat.lt_of_lt_of_le hm (Nat.pow_le_pow_right (by omega) h4))
/-- a relation is found at 13 at the latest -/
theorem found (K : Nat) : ∃ d, d ≤ 13 ∧ (ez (pw K) d).1 = 0 ∧ ∀ j, j < d → (ez (pw K) j).1 ≠ 0 := by
  have key : ∀ n, n ≤ 13 → (∃ d, d < n ∧ (ez (pw K) d).1 = 0 ∧ ∀ j, j < d → (ez (pw K) j).1 ≠ 0) ∨ ∀ j, j < n → (ez (pw K) j).1 ≠ 0 := by
    intro n
    induction n with
    | zero => intro _; exact .inr fun j hj => absurd hj (by omega)
    | succ n ih =>
      intro hn
      rcases ih (by omega) with ⟨d, h1, h2⟩ | h
      · exact .inl ⟨d, by omega, h2⟩
      · by_cases hz : (ez (pw K) n).1 = 0
        · exact .inl ⟨n, by omega, hz, h⟩
        · refine .inr fun j hj => ?_
          rcases Nat.lt_or_ge j n with h3 | h3
          · exact h j h3
          · rw [show j = n by omega]; exact hz
  rcases key 13 (Nat.le_refl _) with ⟨d, h1, h2⟩ | h
  · exact ⟨d, by omega, h2⟩
  · refine ⟨13, Nat.le_refl _, ?_, h⟩
    obtain ⟨h1, _⟩ := el_ech K 13 h
    have hl := (el_length (pw K) 13).1
    have ht := (el_tiny (pw K) 13 (by omega)).1
    have hz := (ez_lt (pw K) 13 (by omega)).1
    exact full_zero _ _ h1 (by rw [hl]; exact ht) (by rw [hl]; exact hz) (ez_bits _ _ h1)
theorem mres_at (r D : Nat) (h0 : (ez r D).1 = 0) (h : ∀ j, j < D → (ez r j).1 ≠ 0) : ∀ n d f, d + n = D → n < f → mres r d f = (ez r D).2 := by
  intro n
  induction n with
  | zero =>
    intro d f hd hf
    obtain ⟨f, rfl⟩ : ∃ g, f = g + 1 := ⟨f - 1, by omega⟩
    obtain rfl : d = D := by omega
    show (if (ez r d).1 = 0 then (ez r d).2 else _) = _
    rw [if_pos h0]
  | succ n ih =>
    intro d f hd hf
    obtain ⟨f, rfl⟩ : ∃ g, f = g + 1 := ⟨f - 1, by omega⟩
    show (if (ez r d).1 = 0 then _ else mres r (d + 1) f) = _
    rw [if_neg (h d (by omega))]
    exact ih (d + 1) f (by omega) (by omega)
/-- the one relation of its degree -/
theorem mres_one (K D P : Nat) (hD : D ≤ 13) (h0 : (ez (pw K) D).1 = 0) (h : ∀ j, j < D → (ez (pw K) j).1 ≠ 0) (hP : P ^^^ 2 ^ D < 2 ^ D) (hz : evs K (lst 14 P) = 0) : mres (pw K) 0 14 = P := by
  rw [mres_at (pw K) D h0 h D 0 14 (by omega) (by omega)]
  obtain ⟨h1, h2⟩ := ez_ev K D hD
  rw [h0] at h1
  have hx : (ez (pw K) D).2 ^^^ P < 2 ^ D := by
    have := Nat.xor_lt_two_pow h2 hP
    rwa [Nat.xor_comm P, Nat.xor_assoc, ← Nat.xor_assoc (2 ^ D) (2 ^ D), Nat.xor_self, Nat.zero_xor] at this
  have hv : ev K ((ez (pw K) D).2 ^^^ P) = 0 := by
    rw [ev_xor, ← h1, Nat.zero_xor]; exact hz
  refine (xor_zero_iff _ _).1 (free K D h _ hx ?_)
  rw [← hv]
  show _ = evs K (lst 14 _)
  rw [lst_up D 14 _ hx (by omega)]
end Go.Proofs.Ytcmcjojjphhffaa
