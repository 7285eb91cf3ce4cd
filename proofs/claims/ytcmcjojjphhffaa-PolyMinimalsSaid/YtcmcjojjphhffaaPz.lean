/- Products of x + root over a field: their values, squares, coefficients. No Go in sight. -/
import Derived.Test.YtcmcjojjphhffaaPx
namespace Go.Proofs.Ytcmcjojjphhffaa
open Pm Gfm

theorem mul_eq_zero (a b : Nat) (ha : a < 8192) (hb : b < 8192) (h : mul a b = 0) : a = 0 ∨ b = 0 := by
  rcases elem a ha with h1 | ⟨m, _, rfl⟩
  · exact .inl h1
  · rcases elem b hb with h2 | ⟨n, _, rfl⟩
    · exact .inr h2
    · rw [mul_pw] at h
      have := pw_pos (m + n)
      omega
/-- the value at x -/
def E (p : List Nat) (x : Nat) : Nat := p.foldr (fun c acc => mul acc x ^^^ c) 0
theorem E_nil (x : Nat) : E [] x = 0 := rfl
theorem E_cons (c : Nat) (p : List Nat) (x : Nat) : E (c :: p) x = mul (E p x) x ^^^ c := rfl
theorem E_lt {p : List Nat} (hp : Small p) (x : Nat) : E p x < 8192 := by
  induction p with
  | nil => show 0 < 8192; omega
  | cons c p ih =>
    rw [E_cons]
    exact xor_lt _ _ (mul_lt _ _ (ih (fun y hy => hp y (List.mem_cons_of_mem _ hy)))) (hp c List.mem_cons_self)
/-- wroot, coefficient by coefficient -/
def wa (r : Nat) : Nat → List Nat → List Nat
  | prev, [] => [prev]
  | prev, c :: p => (prev ^^^ mul c r) :: wa r c p
theorem wa_length (r prev : Nat) (p : List Nat) : (wa r prev p).length = p.length + 1 := by
  induction p generalizing prev with
  | nil => rfl
  | cons c p ih => show (wa r c p).length + 1 = _; rw [ih]; rfl
theorem wa_getD (r : Nat) (p : List Nat) : ∀ prev j, (wa r prev p).getD j 0 = if j ≤ p.length then (if j = 0 then prev else p.getD (j - 1) 0) ^^^ (if j < p.length then mul (p.getD j 0) r else 0) else 0 := by
  induction p with
  | nil =>
    intro prev j
    cases j with
    | zero => simp [wa]
    | succ j => simp [wa]
  | cons c p ih =>
    intro prev j
    cases j with
    | zero => simp [wa]
    | succ j =>
      show (wa r c p).getD j 0 = _
      rw [ih c j]
      have e1 : (j + 1 ≤ (c :: p).length) ↔ j ≤ p.length := by simp
      have e2 : (j + 1 < (c :: p).length) ↔ j < p.length := by simp
      by_cases h : j ≤ p.length
      · rw [if_pos h, if_pos (e1.2 h), if_neg (by omega : ¬ j + 1 = 0)]
        have e3 : (c :: p).getD (j + 1) 0 = p.getD j 0 := by simp
        have e4 : (c :: p).getD (j + 1 - 1) 0 = if j = 0 then c else p.getD (j - 1) 0 := by
          cases j with
          | zero => simp
          | succ j => simp
        rw [e3, e4]
        simp only [e2]
      · rw [if_neg h, if_neg (fun h' => h (e1.1 h'))]
theorem wroot_wa (p : List Nat) (r : Nat) : wroot p r = wa r 0 p := by
  apply List.ext_getElem
  · rw [wroot_length, wa_length]
  · intro j h1 h2
    have a1 : (wroot p r).getD j 0 = (wroot p r)[j] := by rw [List.getD_eq_getElem?_getD, List.getElem?_eq_getElem h1]; rfl
    have a2 : (wa r 0 p).getD j 0 = (wa r 0 p)[j] := by rw [List.getD_eq_getElem?_getD, List.getElem?_eq_getElem h2]; rfl
    rw [wroot_length] at h1
    rw [← a1, ← a2, wroot_getD p r j h1, wa_getD, if_pos (by omega)]
    rfl
theorem wa_small {p : List Nat} (hp : Small p) (r prev : Nat) (h : prev < 8192) : Small (wa r prev p) := by
  induction p generalizing prev with
  | nil => intro x hx; simp [wa] at hx; omega
  | cons c p ih =>
    intro x hx
    have hc := hp c List.mem_cons_self
    rcases List.mem_cons.1 hx with rfl | hx
    · exact xor_lt _ _ h (mul_lt _ _ hc)
    · exact ih (fun y hy => hp y (List.mem_cons_of_mem _ hy)) c hc x hx
theorem E_wa {p : List Nat} (hp : Small p) (r prev x : Nat) (hr : r < 8192) (hx : x < 8192) : E (wa r prev p) x = mul (E p x) (x ^^^ r) ^^^ prev := by
  induction p generalizing prev with
  | nil => show mul 0 x ^^^ prev = mul 0 (x ^^^ r) ^^^ prev; rw [zero_mul, zero_mul]
  | cons c p ih =>
    have hp' : Small p := fun y hy => hp y (List.mem_cons_of_mem _ hy)
    have hc := hp c List.mem_cons_self
    have he := E_lt hp' x
    have hxr := xor_lt x r hx hr
    show mul (E (wa r c p) x) x ^^^ (prev ^^^ mul c r) = mul (mul (E p x) x ^^^ c) (x ^^^ r) ^^^ prev
    rw [ih hp' c, xor_mul _ _ _ (mul_lt _ _ he) hc, xor_mul _ _ _ (mul_lt _ _ he) hc, mul_xor c x r hc, mul_assoc _ _ _ he hxr hx, mul_assoc _ _ _ he hx hxr, mul_comm (x ^^^ r) x hxr hx]
    generalize mul (E p x) (mul x (x ^^^ r)) = A; generalize mul c x = B; generalize mul c r = C
    rw [Nat.xor_assoc, Nat.xor_assoc, Nat.xor_assoc, Nat.xor_comm prev C]
theorem E_wroot {p : List Nat} (hp : Small p) (r x : Nat) (hr : r < 8192) (hx : x < 8192) : E (wroot p r) x = mul (E p x) (x ^^^ r) := by
  rw [wroot_wa, E_wa hp r 0 x hr hx, Nat.xor_zero]
theorem xor_zero_iff (a b : Nat) : a ^^^ b = 0 ↔ a = b := by
  constructor
  · intro h
    have := congrArg (· ^^^ b) h
    simpa [Nat.xor_assoc] using this
  · rintro rfl; exact Nat.xor_self a
theorem E_mprod (K J x : Nat) (hx : x < 8192) : E (mprod K J) x = 0 ↔ ∃ i, i < J ∧ x = rt K i := by
  induction J with
  | zero =>
    constructor
    · intro h
      have : mul 0 x ^^^ 1 = 0 := h
      rw [zero_mul] at this; simp at this
    · rintro ⟨i, h, _⟩; omega
  | succ J ih =>
    have e : mprod K (J + 1) = wroot (mprod K J) (rt K J) := rfl
    rw [e, E_wroot (mprod_small K J) _ _ (rt_lt K J) hx]
    constructor
    · intro h
      rcases mul_eq_zero _ _ (E_lt (mprod_small K J) x) (xor_lt _ _ hx (rt_lt K J)) h with h | h
      · obtain ⟨i, h1, h2⟩ := ih.1 h
        exact ⟨i, by omega, h2⟩
      · exact ⟨J, by omega, (xor_zero_iff _ _).1 h⟩
    · rintro ⟨i, h1, h2⟩
      rcases Nat.lt_or_ge i J with h3 | h3
      · rw [ih.2 ⟨i, h3, h2⟩, zero_mul]
      · obtain rfl : i = J := by omega
        rw [h2, Nat.xor_self, mul_zero]

/-! squares -/
def sq (p : List Nat) : List Nat := p.map fun c => mul c c
theorem sq_xor (a b : Nat) (ha : a < 8192) (hb : b < 8192) : mul (a ^^^ b) (a ^^^ b) = mul a a ^^^ mul b b := by
  rw [xor_mul _ _ _ ha hb, mul_xor _ _ _ ha, mul_xor _ _ _ hb, mul_comm b a hb ha]
  generalize mul a a = A; generalize mul a b = B; generalize mul b b = C
  rw [Nat.xor_assoc, ← Nat.xor_assoc B B, Nat.xor_self, Nat.zero_xor]
theorem sq_mul (a b : Nat) (ha : a < 8192) (hb : b < 8192) : mul (mul a b) (mul a b) = mul (mul a a) (mul b b) := by
  rw [mul_assoc a b _ ha hb (mul_lt _ _ ha), ← mul_assoc b a b hb ha hb, mul_comm b a hb ha, mul_assoc a b b ha hb hb, ← mul_assoc a a _ ha ha (mul_lt _ _ hb)]
theorem sq_wa {p : List Nat} (hp : Small p) (r prev : Nat) (hr : r < 8192) (h : prev < 8192) : sq (wa r prev p) = wa (mul r r) (mul prev prev) (sq p) := by
  induction p generalizing prev with
  | nil => rfl
  | cons c p ih =>
    have hc := hp c List.mem_cons_self
    show mul (prev ^^^ mul c r) (prev ^^^ mul c r) :: sq (wa r c p) = (mul prev prev ^^^ mul (mul c c) (mul r r)) :: wa (mul r r) (mul c c) (sq p)
    rw [sq_xor _ _ h (mul_lt _ _ hc), sq_mul _ _ hc hr, ih (fun y hy => hp y (List.mem_cons_of_mem _ hy)) c hc]
theorem sq_wroot {p : List Nat} (hp : Small p) (r : Nat) (hr : r < 8192) : sq (wroot p r) = wroot (sq p) (mul r r) := by
  rw [wroot_wa, wroot_wa, sq_wa hp r 0 hr (by omega), zero_mul]
theorem wa_comm {p : List Nat} (hp : Small p) (r s : Nat) (hr : r < 8192) (hs : s < 8192) : ∀ u u' v, v < 8192 → u ^^^ mul v s = u' ^^^ mul v r → wa s u (wa r v p) = wa r u' (wa s v p) := by
  induction p with
  | nil =>
    intro u u' v _ h
    show [u ^^^ mul v s, v] = [u' ^^^ mul v r, v]
    rw [h]
  | cons c p ih =>
    intro u u' v hv h
    have hc := hp c List.mem_cons_self
    show (u ^^^ mul (v ^^^ mul c r) s) :: wa s (v ^^^ mul c r) (wa r c p) = (u' ^^^ mul (v ^^^ mul c s) r) :: wa r (v ^^^ mul c s) (wa s c p)
    have e : mul (mul c r) s = mul (mul c s) r := by
      rw [mul_assoc c r s hc hr hs, mul_comm r s hr hs, ← mul_assoc c s r hc hs hr]
    rw [xor_mul _ _ _ hv (mul_lt _ _ hc), xor_mul _ _ _ hv (mul_lt _ _ hc), e, ← Nat.xor_assoc, ← Nat.xor_assoc, h]
    congr 1
    refine ih (fun y hy => hp y (List.mem_cons_of_mem _ hy)) _ _ c hc ?_
    rw [Nat.xor_assoc, Nat.xor_assoc, Nat.xor_comm (mul c r)]
theorem wroot_comm {p : List Nat} (hp : Small p) (r s : Nat) (hr : r < 8192) (hs : s < 8192) : wroot (wroot p r) s = wroot (wroot p s) r := by
  rw [wroot_wa p r, wroot_wa p s, wroot_wa, wroot_wa]
  exact wa_comm hp r s hr hs 0 0 0 (by omega) (by rw [zero_mul, zero_mul])
/-- over the roots from the a-th on -/
def mpf (K : Nat) (p : List Nat) (a : Nat) : Nat → List Nat | 0 => p | n + 1 => wroot (mpf K p a n) (rt K (a + n))
theorem mpf_small {p : List Nat} (hp : Small p) (K a n : Nat) : Small (mpf K p a n) := by
  induction n with
  | zero => exact hp
  | succ n ih => exact wroot_small ih _
theorem mprod_mpf (K J : Nat) : mprod K J = mpf K [1] 0 J := by
  induction J with
  | zero => rfl
  | succ J ih => show wroot (mprod K J) (rt K J) = wroot (mpf K [1] 0 J) (rt K (0 + J)); rw [ih, Nat.zero_add]
theorem sq_mpf {p : List Nat} (hp : Small p) (K a n : Nat) : sq (mpf K p a n) = mpf K (sq p) (a + 1) n := by
  induction n with
  | zero => rfl
  | succ n ih =>
    show sq (wroot (mpf K p a n) (rt K (a + n))) = wroot (mpf K (sq p) (a + 1) n) (rt K (a + 1 + n))
    rw [sq_wroot (mpf_small hp K a n) _ (rt_lt K _), ih, show a + 1 + n = (a + n) + 1 by omega]; rfl
theorem mpf_first {p : List Nat} (hp : Small p) (K a n : Nat) : mpf K p a (n + 1) = wroot (mpf K p (a + 1) n) (rt K a) := by
  induction n with
  | zero => rfl
  | succ n ih =>
    have e : mpf K p a (n + 1 + 1) = wroot (mpf K p a (n + 1)) (rt K (a + (n + 1))) := rfl
    have e2 : mpf K p (a + 1) (n + 1) = wroot (mpf K p (a + 1) n) (rt K (a + 1 + n)) := rfl
    rw [e, ih, e2, wroot_comm (mpf_small hp K _ n) _ _ (rt_lt K _) (rt_lt K _), show a + (n + 1) = a + 1 + n by omega]
theorem one_small : Small [1] := fun x hx => by simp at hx; omega
theorem sq_mprod (K J : Nat) (hJ : 1 ≤ J) (h : rt K J = rt K 0) : sq (mprod K J) = mprod K J := by
  obtain ⟨n, rfl⟩ : ∃ n, J = n + 1 := ⟨J - 1, by omega⟩
  have e1 : sq [1] = [1] := by decide
  have e2 := mpf_first one_small K 0 n
  rw [mprod_mpf, sq_mpf one_small, e1, e2]
  show wroot (mpf K [1] (0 + 1) n) (rt K (0 + 1 + n)) = _
  rw [show 0 + 1 + n = n + 1 by omega, h]
/-- the coefficients are 0 and 1 -/
theorem mprod_bit (K J : Nat) (hJ : 1 ≤ J) (h : rt K J = rt K 0) (j : Nat) : (mprod K J).getD j 0 = 0 ∨ (mprod K J).getD j 0 = 1 := by
  have hs := sq_mprod K J hJ h
  have hlt := (mprod_small K J).getD j
  have e : (sq (mprod K J)).getD j 0 = mul ((mprod K J).getD j 0) ((mprod K J).getD j 0) := by
    simp only [sq, List.getD_eq_getElem?_getD, List.getElem?_map]
    cases (mprod K J)[j]? with
    | none => simp [mul_zero]
    | some c => rfl
  rw [hs] at e
  generalize (mprod K J).getD j 0 = c at *
  have h0 : mul c (c ^^^ 1) = 0 := by
    rw [mul_xor _ _ _ hlt, mul_one, ← e, Nat.xor_self]
  rcases mul_eq_zero _ _ hlt (xor_lt _ _ hlt (by omega)) h0 with h | h
  · exact .inl h
  · exact .inr ((xor_zero_iff _ _).1 h)
theorem mprod_top (K J : Nat) : (mprod K J).getD J 0 = 1 := by
  induction J with
  | zero => rfl
  | succ J ih =>
    show (wroot (mprod K J) (rt K J)).getD (J + 1) 0 = 1
    rw [wroot_getD _ _ _ (by rw [mprod_length]; omega)]
    unfold wco
    rw [if_neg (by omega), if_neg (by rw [mprod_length]; omega), Nat.add_sub_cancel, ih]; rfl
theorem mprod_zero (K J : Nat) (hJ : 1 ≤ J) (h : rt K J = rt K 0) : (mprod K J).getD 0 0 = 1 := by
  rcases mprod_bit K J hJ h 0 with h0 | h0
  · exfalso
    have hE : E (mprod K J) 0 = 0 := by
      have hl := mprod_length K J
      cases hm : mprod K J with
      | nil => rfl
      | cons c p =>
        rw [hm] at h0
        have : c = 0 := by simpa using h0
        rw [E_cons, mul_zero, this]; rfl
    obtain ⟨i, _, hi⟩ := (E_mprod K J 0 (by omega)).1 hE
    have := rt_pos K i
    omega
  · exact h0

/-! the polynomial over two numbers that has these coefficients -/
theorem mexp_bit (l : List Nat) (k e : Nat) (hk : k ≤ 16385) : (gat (mexp l k)).testBit e = (decide (e < k) && (l.getD e 0 == 1)) := by
  induction k with
  | zero => simp [mexp, gat]
  | succ k ih =>
    rw [mexp_succ]
    by_cases h : l.getD k 0 = 1
    · rw [if_pos h, gat_append, Nat.testBit_xor, ih (by omega)]
      have e1 : gat [(k : Int)] = 2 ^ k := by
        rw [gat_cons]
        have : gat [] = 0 := rfl
        rw [this, Nat.xor_zero, tog_ok _ (by omega), Int.toNat_natCast]
      rw [e1, Nat.testBit_two_pow]
      by_cases he : e = k
      · subst he; rw [h]; simp
      · have f1 : decide (k = e) = false := by simp; omega
        have f2 : decide (e < k + 1) = decide (e < k) := by rw [decide_eq_decide]; omega
        rw [f1, f2]; simp
    · rw [if_neg h, ih (by omega)]
      by_cases he : e = k
      · subst he
        have : (l.getD e 0 == 1) = false := beq_eq_false_iff_ne.2 h
        rw [this]; simp
      · have f2 : decide (e < k + 1) = decide (e < k) := by rw [decide_eq_decide]; omega
        rw [f2]
/-- the value as a sum of powers -/
def psum (l : List Nat) (q : Nat) : Nat → Nat | 0 => 0 | j + 1 => (if l.getD j 0 = 1 then pw (q * j) else 0) ^^^ psum l q j
theorem psum_evs (l : List Nat) (q n m : Nat) (hn : n ≤ m) (hm : m ≤ 16385) : evs q (lst n (gat (mexp l m))) = psum l q n := by
  induction n with
  | zero => rfl
  | succ n ih =>
    have hl : lst (n + 1) (gat (mexp l m)) = if (gat (mexp l m)).testBit n then (n : Int) :: lst n (gat (mexp l m)) else lst n (gat (mexp l m)) := rfl
    rw [hl, mexp_bit l m n hm, decide_eq_true (show n < m by omega), Bool.true_and]
    unfold psum
    by_cases h : l.getD n 0 = 1
    · rw [if_pos (beq_iff_eq.2 h), if_pos h]
      show pw (trn ((q : Int) * (n : Int))) ^^^ evs q (lst n (gat (mexp l m))) = _
      rw [pw_trn, ih (by omega)]
    · rw [if_neg (fun e => h (beq_iff_eq.1 e)), if_neg h, ih (by omega), Nat.zero_xor]
theorem psum_cons (c : Nat) (p : List Nat) (q : Nat) (n : Nat) (hc : c = 0 ∨ c = 1) : psum (c :: p) q (n + 1) = mul (psum p q n) (pw q) ^^^ c := by
  induction n with
  | zero =>
    show (if c = 1 then pw (q * 0) else 0) ^^^ 0 = mul 0 (pw q) ^^^ c
    rw [zero_mul, Nat.xor_zero, Nat.zero_xor]
    rcases hc with rfl | rfl
    · rfl
    · rfl
  | succ n ih =>
    have e1 : psum (c :: p) q (n + 1 + 1) = (if (c :: p).getD (n + 1) 0 = 1 then pw (q * (n + 1)) else 0) ^^^ psum (c :: p) q (n + 1) := rfl
    have e2 : psum p q (n + 1) = (if p.getD n 0 = 1 then pw (q * n) else 0) ^^^ psum p q n := rfl
    have e3 : (c :: p).getD (n + 1) 0 = p.getD n 0 := by simp
    have hps : psum p q n < 8192 := by
      clear ih e1 e2 e3
      induction n with
      | zero => show 0 < 8192; omega
      | succ n ih =>
        refine xor_lt _ _ ?_ ih
        split
        · exact pw_lt _
        · omega
    rw [e1, ih, e2, e3]
    by_cases h : p.getD n 0 = 1
    · rw [if_pos h, if_pos h, xor_mul _ _ _ (pw_lt _) hps, mul_pw, Nat.mul_succ, Nat.xor_assoc]
    · rw [if_neg h, if_neg h, Nat.zero_xor, Nat.zero_xor]
theorem E_psum (p : List Nat) (q : Nat) (h : ∀ j, p.getD j 0 = 0 ∨ p.getD j 0 = 1) : E p (pw q) = psum p q p.length := by
  induction p with
  | nil => rfl
  | cons c p ih =>
    have hc : c = 0 ∨ c = 1 := by have := h 0; simpa using this
    rw [E_cons, ih (fun j => by have := h (j + 1); simpa using this), List.length_cons, psum_cons c p q _ hc]
theorem mpol_lt (K J : Nat) (hJ : J ≤ 13) : mpol K J < 2 ^ (J + 1) := by
  apply Nat.lt_pow_two_of_testBit
  intro i hi
  unfold mpol
  rw [mexp_bit _ _ _ (by omega), decide_eq_false (by omega)]; rfl
/-- the value of the least polynomial at the q-th power of x -/
theorem mpol_value (K J q : Nat) (hJ : 1 ≤ J) (hJ2 : J ≤ 13) (h : rt K J = rt K 0) : evs q (exps (mpol K J)) = E (mprod K J) (pw q) := by
  have e : exps (mpol K J) = lst (J + 1) (mpol K J) := lst_up (J + 1) top _ (mpol_lt K J hJ2) (by unfold top; omega)
  rw [e, E_psum _ _ (mprod_bit K J hJ h), mprod_length]
  exact psum_evs (mprod K J) q (J + 1) (J + 1) (Nat.le_refl _) (by omega)
theorem mpol_zero (K J q : Nat) (hJ : 1 ≤ J) (hJ2 : J ≤ 13) (h : rt K J = rt K 0) : evs q (exps (mpol K J)) = 0 ↔ ∃ i, i < J ∧ pw q = rt K i := by
  rw [mpol_value K J q hJ hJ2 h, E_mprod K J _ (pw_lt q)]
theorem mpol_bits (K J : Nat) (hJ : 1 ≤ J) (hJ2 : J ≤ 13) (h : rt K J = rt K 0) : 2 ^ J ≤ mpol K J ∧ mpol K J < 2 ^ (J + 1) ∧ mpol K J ≠ 2 ^ J := by
  have hlt := mpol_lt K J hJ2
  have hb : (mpol K J).testBit J = true := by
    unfold mpol
    rw [mexp_bit _ _ _ (by omega), mprod_top, decide_eq_true (by omega)]; rfl
  have hb0 : (mpol K J).testBit 0 = true := by
    unfold mpol
    rw [mexp_bit _ _ _ (by omega), mprod_zero K J hJ h, decide_eq_true (by omega)]; rfl
  refine ⟨Nat.ge_two_pow_of_testBit hb, hlt, fun e => ?_⟩
  rw [e, Nat.testBit_two_pow] at hb0
  have := of_decide_eq_true hb0
  omega
end Go.Proofs.Ytcmcjojjphhffaa
