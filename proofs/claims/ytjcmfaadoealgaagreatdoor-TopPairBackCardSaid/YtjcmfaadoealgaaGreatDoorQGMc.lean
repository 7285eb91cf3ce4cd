import Derived.Test.YtjcmfaadoealgaaGreatDoorQGGfm
import Derived.Test.YtjcmfaadoealgaaGreatDoorQGIh
import Derived.Test.YtjcmfaadoealgaaGreatDoorQGIg
import Derived.Test.YtjcmfaadoealgaaGreatDoorQGHu
/- Plain: the values of remainders and words at powers of the field's generator; what is 0 at 2t of them is nothing; bits turned; no more than one set of places. -/
namespace Go.Proofs.YtjcmfaadoealgaaGreatDoor
open F
open Go.RowKit Pm
set_option linter.unusedVariables false
def invR2 (x : Nat) : Nat → Nat → Nat
  | 0, a => a
  | n + 1, a => match a * a * x % 8191 with | 0 => 0 | q + 1 => invR2 x n (q + 1)
def invC2 (x : Nat) : Bool := match invR2 x 11 1 with | 0 => false | a + 1 => (((a + 1) * (a + 1) % 8191) * ((a + 1) * (a + 1) % 8191) % 8191 * x % 8191) * x % 8191 == 1
def invD2 : Nat → Nat → Bool
  | _, 0 => true
  | s, n + 1 => match invC2 (s + n + 1) with | true => invD2 s n | false => false
theorem invD2_spec (s n : Nat) (h : invD2 s n = true) : ∀ x, s < x → x ≤ s + n → ∃ y, y * x % 8191 = 1 := by
  induction n with
  | zero => intro x h1 h2; omega
  | succ n ih =>
    unfold invD2 at h
    split at h
    · rename_i hc
      intro x h1 h2
      rcases Nat.lt_or_ge x (s + n + 1) with h3 | h3
      · exact ih h x h1 (by omega)
      · obtain rfl : x = s + n + 1 := by omega
        unfold invC2 at hc
        split at hc
        · cases hc
        · exact ⟨_, by simpa using hc⟩
    · cases h
set_option maxRecDepth 100000 in
theorem invD2_run : ∀ a : Fin 63, invD2 (130 * a.val) 130 = true := by decide +kernel
theorem inverse2 (K : Nat) (h0 : 0 < K) (h : K < 8191) : ∃ y, y * K % 8191 = 1 := by
  have h1 : (K - 1) / 130 < 63 := by omega
  exact invD2_spec _ _ (invD2_run ⟨(K - 1) / 130, h1⟩) K (by show 130 * ((K - 1) / 130) < K; omega) (by show K ≤ 130 * ((K - 1) / 130) + 130; omega)
namespace F
theorem al_one : al 1 ≠ 1 := fun h => by
  have : Gfm.pw 1 = 1 := congrArg Subtype.val h
  exact absurd this (by decide)
theorem al_inj {m n : Nat} (hm : m < 8191) (hn : n < 8191) (h : al m = al n) : m = n := by
  have key : ∀ m n : Nat, m < n → n < 8191 → al m = al n → False := fun m n h1 h2 h => by
    have e : al m * al (n - m) = al m * 1 := by rw [← al_add, mul_one, h]; congr 1; omega
    have e1 := mul_left_cancel (al_ne m) e
    obtain ⟨y, hy⟩ := inverse2 (n - m) (by omega) (by omega)
    have p1 : ∀ k, pow (1 : F) k = 1 := fun k => by
      induction k with
      | zero => rfl
      | succ k ih => rw [pow_succ, ih, mul_one]
    have e2 : pow (al (n - m)) y = 1 := by rw [e1, p1]
    rw [pow_al, ← al_mod, Nat.mul_comm, hy] at e2
    exact al_one e2
  rcases Nat.lt_trichotomy m n with h1 | h1 | h1
  · exact (key m n h1 hn h).elim
  · exact h1
  · exact (key n m h1 hm h.symm).elim
end F
/-- a number, where a bit is set -/
def fx (b : Bool) (x : F) : F := if b then x else 0
theorem fx_xor (a b : Bool) (x : F) : fx (a != b) x = fx a x + fx b x := by
  cases a <;> cases b
  · exact (add_zero 0).symm
  · exact (zero_add x).symm
  · exact (add_zero x).symm
  · exact (add_self x).symm
theorem fx_and (a b : Bool) (x : F) : fx (a && b) x = fx a (fx b x) := by cases a <;> rfl
theorem fx_mul (a : Bool) (c x : F) : c * fx a x = fx a (c * x) := by
  cases a
  · exact mul_zero c
  · rfl
theorem fx_sq (a : Bool) (x : F) : fx a x * fx a x = fx a (x * x) := by
  cases a
  · exact mul_zero 0
  · rfl
theorem sm_fx (b : Bool) (f : Nat → F) (n : Nat) : sm (fun i => fx b (f i)) n = fx b (sm f n) := by
  cases b
  · exact sm_zero fun _ _ => rfl
  · rfl
theorem sm_sq (f : Nat → F) (n : Nat) : sm f n * sm f n = sm (fun i => f i * f i) n := by
  induction n with
  | zero => exact mul_zero 0
  | succ n ih => show (sm f n + f n) * (sm f n + f n) = _; rw [sq_add, ih]; rfl
theorem sm_split (f : Nat → F) (a b : Nat) : sm f (a + b) = sm f a + sm (fun i => f (a + i)) b := by
  induction b with
  | zero => exact (add_zero _).symm
  | succ b ih => show sm f (a + b) + f (a + b) = _ + (_ + _); rw [ih, add_assoc]
/-- the value of a remainder of degree below d at the K-th power -/
def evR (d K : Nat) (r : Rm) : F := sm (fun j => fx (rb r j) (al (K * (d - 1 - j)))) d
theorem evR_plus (d K : Nat) (a b : Rm) : evR d K (a.plus b) = evR d K a + evR d K b := by
  unfold evR
  rw [← sm_add]
  exact sm_congr fun j _ => by rw [rb_plus, fx_xor]
theorem evR_bit (d K e : Nat) (hd : d ≤ 120) (he : e < d) : evR d K (Rm.bit (d - 1 - e)) = al (K * e) := by
  unfold evR
  rw [sm_only (d - 1 - e) (by omega) fun i hi hne => by rw [rb_bit _ _ (by omega), decide_eq_false hne]; rfl]
  rw [rb_bit _ _ (by omega), decide_eq_true rfl, show d - 1 - (d - 1 - e) = e by omega]
  rfl
theorem evR_zero (d K : Nat) : evR d K Rm.zero = 0 := sm_zero fun j _ => by rw [rb_zero]; rfl
theorem evR_tail (d K : Nat) (hd : d ≤ 120) (l : List Int) (hl : ∀ e ∈ l, ∃ n : Nat, e = (n : Int) ∧ n < d) : (evR d K (tailR d l)).1 = evs K l := by
  have key : ∀ (l : List Int), (∀ e ∈ l, ∃ n : Nat, e = (n : Int) ∧ n < d) → ∀ r : Rm, (evR d K (l.foldl (fun r e => r.plus (Rm.bit (d - 1 - e.toNat))) r)).1 = (evR d K r).1 ^^^ evs K l := by
    intro l
    induction l with
    | nil => intro _ r; exact (Nat.xor_zero _).symm
    | cons e l ih =>
      intro hl r
      obtain ⟨n, rfl, hn⟩ := hl e List.mem_cons_self
      rw [List.foldl_cons, ih (fun x hx => hl x (List.mem_cons_of_mem _ hx)), evR_plus, Int.toNat_natCast, evR_bit d K n hd hn]
      show ((evR d K r).1 ^^^ Gfm.pw (K * n)) ^^^ evs K l = (evR d K r).1 ^^^ (Gfm.pw (trn ((K : Int) * (n : Int))) ^^^ evs K l)
      rw [pw_trn, Nat.xor_assoc]
  unfold tailR
  rw [key l hl, evR_zero]
  exact Nat.zero_xor _
/-- the generator has that power as a root -/
def Root (d K : Nat) (T : Rm) : Prop := evR d K T = al (K * d)
theorem root_of (d K : Nat) (hd : d ≤ 120) (l : List Int) (hl : ∀ e ∈ l, ∃ n : Nat, e = (n : Int) ∧ n < d) (h : evs K ((d : Int) :: l) = 0) : Root d K (tailR d l) := by
  apply F.ext
  rw [evR_tail d K hd l hl]
  show _ = Gfm.pw (K * d)
  have h' : Gfm.pw (trn ((K : Int) * (d : Int))) ^^^ evs K l = 0 := h
  rw [pw_trn] at h'
  have e : Gfm.pw (K * d) ^^^ (Gfm.pw (K * d) ^^^ evs K l) = Gfm.pw (K * d) ^^^ 0 := by rw [h']
  rw [← Nat.xor_assoc, Nat.xor_self, Nat.zero_xor, Nat.xor_zero] at e
  exact e
theorem evR_bst {d K : Nat} {T r : Rm} (hr : r.Ok) (hz : rb r d = false) (hT : Root d K T) (hd : 1 ≤ d) (x : Bool) : evR d K (bst T r x) = al K * evR d K r + fx x (al (K * d)) := by
  obtain ⟨D, rfl⟩ : ∃ D, d = D + 1 := ⟨d - 1, by omega⟩
  have e1 : evR (D + 1) K (bst T r x) = sm (fun j => fx (rb r (j + 1)) (al (K * (D + 1 - 1 - j)))) (D + 1) + fx (rb r 0 != x) (evR (D + 1) K T) := by
    unfold evR
    rw [← sm_fx, ← sm_add]
    exact sm_congr fun j _ => by rw [rb_bst hr, fx_xor, fx_and]
  have e2 : sm (fun j => fx (rb r (j + 1)) (al (K * (D + 1 - 1 - j)))) (D + 1) = sm (fun j => fx (rb r (j + 1)) (al (K * (D - j)))) D := by
    show sm _ D + fx (rb r (D + 1)) _ = _
    rw [hz]
    show sm _ D + 0 = _
    rw [add_zero]
    exact sm_congr fun j _ => by rw [Nat.add_sub_cancel]
  have e3 : al K * evR (D + 1) K r = fx (rb r 0) (al (K * (D + 1))) + sm (fun j => fx (rb r (j + 1)) (al (K * (D - j)))) D := by
    unfold evR
    rw [← sm_mul, sm_first]
    congr 1
    · rw [fx_mul, ← al_add]; congr 2; show K + K * (D + 1 - 1 - 0) = _; rw [show D + 1 - 1 - 0 = D by omega, Nat.mul_succ, Nat.add_comm]
    · refine sm_congr fun j hj => ?_
      rw [fx_mul, ← al_add]
      congr 2
      obtain ⟨q, rfl⟩ : ∃ q, D = j + q + 1 := ⟨D - j - 1, by omega⟩
      rw [show j + q + 1 + 1 - 1 - (j + 1) = q by omega, show j + q + 1 - j = q + 1 by omega, Nat.mul_succ, Nat.add_comm]
  rw [e1, e2, e3, hT, fx_xor]
  ac_rfl
theorem ev_regs {d K : Nat} {tl : List Int} (hd : d ≤ 120) (hd1 : 1 ≤ d) (htl : ∀ k, k < tl.length → ∃ e : Nat, tl.getD k 0 = (e : Int) ∧ e < d) (hT : (tailR d tl).Ok) (hR : Root d K (tailR d tl)) (l : List UInt8) (i : Nat) :
    evR d K (regs (tailR d tl) l i) = sm (fun q => fx (dbit l q) (al (K * (d + (i - 1 - q))))) i := by
  induction i with
  | zero => exact evR_zero d K
  | succ i ih =>
    show evR d K (bst _ _ _) = sm _ i + fx (dbit l i) (al (K * (d + (i + 1 - 1 - i))))
    rw [evR_bst (regs_ok hT l i) (regs_high d hd tl htl hT l i d (Nat.le_refl _)) hR hd1, ih, ← sm_mul, show d + (i + 1 - 1 - i) = d by omega]
    congr 1
    refine sm_congr fun q hq => ?_
    rw [fx_mul, ← al_add]
    congr 2
    obtain ⟨p, rfl⟩ : ∃ p, i = q + p + 1 := ⟨i - q - 1, by omega⟩
    rw [show d + (q + p + 1 - 1 - q) = d + p by omega, show d + (q + p + 1 + 1 - 1 - q) = (d + p) + 1 by omega, Nat.mul_succ, Nat.add_comm]
/-- the value of a word of N bits at the K-th power -/
def wv (K : Nat) (W : List UInt8) (N : Nat) : F := sm (fun q => fx (dbit W q) (al (K * (N - 1 - q)))) N
theorem dbit_left (a b : List UInt8) (q : Nat) (h : q < 8 * a.length) : dbit (a ++ b) q = dbit a q := by
  unfold dbit
  rw [List.getD_eq_getElem?_getD, List.getElem?_append_left (by omega), ← List.getD_eq_getElem?_getD]
theorem dbit_right (a b : List UInt8) (j : Nat) : dbit (a ++ b) (8 * a.length + j) = dbit b j := by
  unfold dbit
  rw [show (8 * a.length + j) / 8 = a.length + j / 8 by omega, show (8 * a.length + j) % 8 = j % 8 by omega, List.getD_eq_getElem?_getD, List.getElem?_append_right (by omega), Nat.add_sub_cancel_left, ← List.getD_eq_getElem?_getD]
/-- a word leaves its value -/
theorem wv_rest {d K : Nat} {tl : List Int} (hd : d ≤ 120) (hd1 : 1 ≤ d) (htl : ∀ k, k < tl.length → ∃ e : Nat, tl.getD k 0 = (e : Int) ∧ e < d) (hT : (tailR d tl).Ok) (hR : Root d K (tailR d tl)) (a b : List UInt8) (g : Rm) (hg : ∀ j, j < d → rb g j = dbit b j) :
    evR d K ((regs (tailR d tl) a (8 * a.length)).plus g) = wv K (a ++ b) (8 * a.length + d) := by
  unfold wv
  rw [evR_plus, ev_regs hd hd1 htl hT hR, sm_split]
  congr 1
  · refine sm_congr fun q hq => ?_
    rw [dbit_left _ _ _ hq]
    congr 3
    omega
  · refine sm_congr fun j hj => ?_
    rw [dbit_right, hg j hj]
    congr 3
    omega
/-- who has more roots than its degree is nothing -/
theorem no_roots : ∀ (L : Nat) (C : Nat → F) (l : List F), l.Nodup → L < l.length → (∀ i, L < i → C i = 0) → (∀ X ∈ l, cv C (pow X) L = 0) → ∀ i, C i = 0 := by
  intro L
  induction L with
  | zero =>
    intro C l hn hl hd hr i
    by_cases hi : i = 0
    · obtain ⟨X, hX⟩ : ∃ X, X ∈ l := by
        cases l with
        | nil => exact absurd hl (by simp)
        | cons X _ => exact ⟨X, List.mem_cons_self⟩
      have := hr X hX
      rw [cv_zero, pow_zero, mul_one] at this
      rw [hi, this]
    · exact hd i (by omega)
  | succ L ih =>
    intro C l hn hl hd hr
    by_cases h0 : C 0 = 0
    · have hs : ∀ X, cv C (pow X) (L + 1) = cv (fun i => C (i + 1)) (pow X) L := fun X => by
        unfold cv
        rw [sm_first, h0, zero_mul, zero_add]
        exact sm_congr fun i hi => by rw [show L + 1 - (i + 1) = L - i by omega]
      have := ih (fun i => C (i + 1)) l hn (by omega) (fun i hi => hd (i + 1) (by omega)) fun X hX => by rw [← hs, hr X hX]
      intro i
      cases i with
      | zero => exact h0
      | succ i => exact this i
    · exfalso
      have := (factor l (fun i => inv (C 0) * C i) (L + 1) hn (by show inv (C 0) * C 0 = 1; rw [mul_comm, mul_inv h0]) (fun i hi => by show inv (C 0) * C i = 0; rw [hd i hi, mul_zero]) (fun X hX => by rw [cv_mul_left, hr X hX, mul_zero])).1
      omega
/-- the exponents of a generator's roots -/
def cj (t : Nat) : List Nat := (List.range t).flatMap fun i => (List.range 13).map fun j => (2 * i + 1) * 2 ^ j % 8191
theorem cj_nodup : ∀ t : Fin 9, (cj t.val).Nodup := by decide +kernel
theorem cj_length : ∀ t : Fin 9, (cj t.val).length = 13 * t.val := by decide +kernel
theorem cj_mem {t e : Nat} (h : e ∈ cj t) : ∃ i j, i < t ∧ e = (2 * i + 1) * 2 ^ j % 8191 := by
  unfold cj at h
  obtain ⟨i, hi, h⟩ := List.mem_flatMap.1 h
  obtain ⟨j, _, rfl⟩ := List.mem_map.1 h
  exact ⟨i, j, List.mem_range.1 hi, rfl⟩
theorem evR_two (d K : Nat) (r : Rm) : evR d (2 * K) r = evR d K r * evR d K r := by
  unfold evR
  rw [sm_sq]
  refine sm_congr fun j _ => ?_
  rw [fx_sq, ← al_add, ← Nat.two_mul, Nat.mul_assoc]
theorem evR_mod (d K : Nat) (r : Rm) : evR d (K % 8191) r = evR d K r := by
  refine sm_congr fun j _ => ?_
  rw [← al_mod (K % 8191 * _), ← al_mod (K * _), Nat.mod_mul_mod]
/-- what is 0 at the first 2t powers is nothing -/
theorem rest_zero (t : Nat) (h1 : 1 ≤ t) (h8 : t ≤ 8) (r : Rm) (hr : r.Ok) (hz : ∀ j, 13 * t ≤ j → rb r j = false) (h : ∀ K, 1 ≤ K → K ≤ 2 * t → evR (13 * t) K r = 0) : r = Rm.zero := by
  have hpow : ∀ i j, i < t → evR (13 * t) ((2 * i + 1) * 2 ^ j) r = 0 := by
    intro i j hi
    induction j with
    | zero => exact h _ (by omega) (by omega)
    | succ j ih => rw [Nat.pow_succ, show (2 * i + 1) * (2 ^ j * 2) = 2 * ((2 * i + 1) * 2 ^ j) by rw [← Nat.mul_assoc, Nat.mul_comm _ 2], evR_two, ih, mul_zero]
  have hev : ∀ K, cv (fun j => fx (rb r j) 1) (pow (al K)) (13 * t - 1) = evR (13 * t) K r := fun K => by
    unfold cv evR
    rw [show 13 * t - 1 + 1 = 13 * t by omega]
    refine sm_congr fun j _ => ?_
    rw [pow_al, mul_comm, fx_mul, mul_one]
  have hnd := cj_nodup ⟨t, by omega⟩
  have hlen := cj_length ⟨t, by omega⟩
  have hall := no_roots (13 * t - 1) (fun j => fx (rb r j) 1) ((cj t).map al)
    (by
      rw [List.nodup_iff_pairwise_ne, List.pairwise_map]
      refine List.Pairwise.imp_of_mem (R := fun a b => a ≠ b) (fun {a b} ha hb hab e => ?_) (List.nodup_iff_pairwise_ne.1 hnd)
      obtain ⟨_, _, _, rfl⟩ := cj_mem ha
      obtain ⟨_, _, _, rfl⟩ := cj_mem hb
      exact hab (al_inj (Nat.mod_lt _ (by omega)) (Nat.mod_lt _ (by omega)) e))
    (by rw [List.length_map]; have : (cj t).length = 13 * t := hlen; omega)
    (fun i hi => by show fx (rb r i) 1 = 0; rw [hz i (by omega)]; rfl)
    (fun X hX => by
      obtain ⟨e, he, rfl⟩ := List.mem_map.1 hX
      obtain ⟨i, j, hi, rfl⟩ := cj_mem he
      rw [hev, evR_mod, hpow i j hi])
  refine rb_ext hr Rm.zero_ok fun j _ => ?_
  rw [rb_zero]
  have := hall j
  cases hb : rb r j
  · rfl
  · rw [hb] at this
    exact absurd this one_ne_zero
theorem rb_fromStep (s : ByteArray) (r : Rm) (hr : r.Ok) (i j : Nat) (hj : j < 128) : rb (fromStep s r i) j = if j < 120 then rb r (j + 8) else bb (s.data.toList.getD i 0).toNat (j - 120) := by
  have e2 : ∀ q, (r.l * 256 % 18446744073709551616).testBit q = (decide (q < 64) && (decide (8 ≤ q) && r.l.testBit (q - 8))) := fun q => bit_up r.l 8 q
  have h8 := rb_sh8 hr j
  unfold fromStep
  by_cases hs : i < s.size
  · rw [dif_pos hs]
    have hb : (s[i]).toNat < 256 := s[i].toNat_lt
    have hg : (s.data.toList.getD i 0).toNat = s[i].toNat := by rw [List.getD_eq_getElem?_getD, List.getElem?_eq_getElem (by simpa using hs)]; rfl
    rw [hg]
    by_cases h1 : j < 64
    · rw [if_pos (by omega), ← h8, rb_lo _ _ h1, rb_lo _ _ h1]
    · rw [rb_mid _ _ h1 hj]
      show Nat.testBit (r.sh8.l ||| s[i].toNat) (127 - j) = _
      rw [Nat.testBit_or]
      by_cases h2 : j < 120
      · rw [if_pos h2, ← h8, rb_mid _ _ h1 hj, Nat.testBit_lt_two_pow (x := s[i].toNat) (Nat.lt_of_lt_of_le hb (Nat.pow_le_pow_right (show 0 < 2 by omega) (show 8 ≤ 127 - j by omega))), Bool.or_false]
      · rw [if_neg h2]
        have : (r.sh8.l).testBit (127 - j) = false := by
          show Nat.testBit (r.l * 256 % 18446744073709551616) (127 - j) = false
          rw [e2, decide_eq_false (show ¬ 8 ≤ 127 - j by omega), Bool.false_and, Bool.and_false]
        rw [this, Bool.false_or]
        unfold bb
        congr 1
        omega
  · rw [dif_neg hs]
    by_cases h2 : j < 120
    · rw [if_pos h2, h8]
    · rw [if_neg h2, h8, rb_hi _ _ (by omega), List.getD_eq_getElem?_getD, List.getElem?_eq_none (by simpa using hs)]
      exact (Nat.zero_testBit _).symm
theorem rb_fromR (s : ByteArray) : ∀ i, i ≤ 16 → ∀ j, j < 128 → rb (fromR s i) j = if 128 - 8 * i ≤ j then dbit s.data.toList (8 * i + j - 128) else false := by
  intro i
  induction i with
  | zero => intro _ j hj; rw [if_neg (by omega)]; exact rb_zero j
  | succ i ih =>
    intro hi j hj
    show rb (fromStep s (fromR s i) i) j = _
    rw [rb_fromStep s _ (fromR_ok s i) i j hj]
    by_cases h : j < 120
    · rw [if_pos h, ih (by omega) (j + 8) (by omega)]
      by_cases h2 : 128 - 8 * (i + 1) ≤ j
      · rw [if_pos h2, if_pos (by omega), show 8 * i + (j + 8) - 128 = 8 * (i + 1) + j - 128 by omega]
      · rw [if_neg h2, if_neg (by omega)]
    · rw [if_neg h, if_pos (by omega)]
      unfold dbit
      rw [show (8 * (i + 1) + j - 128) / 8 = i by omega, show (8 * (i + 1) + j - 128) % 8 = j - 120 by omega]
def maskN (m : Nat) : Nat := 18446744073709551615 - 18446744073709551615 / 2 ^ m
def maskOk (m : Nat) : Nat → Bool | 0 => true | i + 1 => ((maskN m).testBit i == decide (64 ≤ i + m)) && maskOk m i
theorem maskOk_all : ∀ m : Fin 65, maskOk m.val 64 = true := by decide +kernel
theorem maskOk_bit (m : Nat) : ∀ n, maskOk m n = true → ∀ i, i < n → (maskN m).testBit i = decide (64 ≤ i + m) := by
  intro n
  induction n with
  | zero => intro _ i hi; omega
  | succ n ih =>
    intro h i hi
    unfold maskOk at h
    obtain ⟨h1, h2⟩ := (Bool.and_eq_true_iff ..).1 h
    by_cases e : i = n
    · subst e; exact eq_of_beq h1
    · exact ih h2 i (by omega)
theorem mask_bit (m i : Nat) (hm : m ≤ 64) (hi : i < 64) : (maskN m).testBit i = decide (64 ≤ i + m) := maskOk_bit m 64 (maskOk_all ⟨m, by omega⟩) i hi
/-- the bits of what is taken out of a text -/
theorem rb_from (s : ByteArray) (d : Nat) (hd : d ≤ 128) (j : Nat) : rb (fromT s d) j = (decide (j < d) && dbit s.data.toList j) := by
  by_cases h1 : j < 64
  · rw [rb_lo _ _ h1]
    show Nat.testBit ((fromR s 16).h &&& maskN (min d 64)) (63 - j) = _
    rw [Nat.testBit_and, mask_bit _ _ (by omega) (by omega), ← rb_lo _ _ h1, rb_fromR s 16 (by omega) j (by omega), if_pos (by omega), Bool.and_comm, show 8 * 16 + j - 128 = j by omega]
    congr 1
    by_cases h : j < d
    · rw [decide_eq_true h, decide_eq_true (by omega)]
    · rw [decide_eq_false h, decide_eq_false (by omega)]
  · by_cases h2 : j < 128
    · rw [rb_mid _ _ h1 h2]
      show Nat.testBit ((fromR s 16).l &&& maskN (d - 64)) (127 - j) = _
      rw [Nat.testBit_and, mask_bit _ _ (by omega) (by omega), ← rb_mid _ _ h1 h2, rb_fromR s 16 (by omega) j h2, if_pos (by omega), Bool.and_comm, show 8 * 16 + j - 128 = j by omega]
      congr 1
      by_cases h : j < d
      · rw [decide_eq_true h, decide_eq_true (by omega)]
      · rw [decide_eq_false h, decide_eq_false (by omega)]
    · rw [rb_hi _ _ h2, decide_eq_false (by omega), Bool.false_and]
theorem from_ok (s : ByteArray) (d : Nat) : (fromT s d).Ok := ⟨Nat.lt_of_le_of_lt Nat.and_le_left (fromR_ok s 16).1, Nat.lt_of_le_of_lt Nat.and_le_left (fromR_ok s 16).2⟩
/-- one bit turned -/
def flipB (W : List UInt8) (q : Nat) : List UInt8 := W.set (q / 8) (W.getD (q / 8) 0 ^^^ UInt8.ofNat (2 ^ (7 - q % 8)))
theorem flipB_length (W : List UInt8) (q : Nat) : (flipB W q).length = W.length := List.length_set
theorem dbit_flip (W : List UInt8) (q p : Nat) (hq : q < 8 * W.length) : dbit (flipB W q) p = (dbit W p != decide (p = q)) := by
  unfold dbit flipB
  by_cases h : p / 8 = q / 8
  · rw [h, List.getD_eq_getElem?_getD, List.getElem?_set_self (by omega), Option.getD_some, UInt8.toNat_xor, UInt8.toNat_ofNat', Nat.mod_eq_of_lt (show 2 ^ (7 - q % 8) < 2 ^ 8 from Nat.pow_lt_pow_right (by omega) (by omega))]
    unfold bb
    rw [Nat.testBit_xor, Nat.testBit_two_pow]
    show _ = (_ != _)
    congr 1
    by_cases e : p = q
    · rw [decide_eq_true e, decide_eq_true (by omega)]
    · rw [decide_eq_false e, decide_eq_false (by omega)]
  · rw [decide_eq_false (fun e => h (by rw [e])), List.getD_eq_getElem?_getD, List.getElem?_set_ne (fun e => h e.symm), ← List.getD_eq_getElem?_getD]
    cases bb (W.getD (p / 8) 0).toNat (p % 8) <;> rfl
theorem wv_flip (K : Nat) (W : List UInt8) (N q : Nat) (hq : q < N) (hN : N ≤ 8 * W.length) : wv K (flipB W q) N = wv K W N + al (K * (N - 1 - q)) := by
  have e : wv K (flipB W q) N = wv K W N + sm (fun p => fx (decide (p = q)) (al (K * (N - 1 - p)))) N := by
    unfold wv
    rw [← sm_add]
    exact sm_congr fun p _ => by rw [dbit_flip W q p (by omega), fx_xor]
  rw [e, sm_only q hq fun i _ hne => by rw [decide_eq_false hne]; rfl, decide_eq_true rfl]
  rfl
/-- the places turned, each told by its exponent -/
def turns (N : Nat) (W : List UInt8) (ps : List Nat) : List UInt8 := ps.foldl (fun W p => flipB W (N - 1 - p)) W
theorem turns_length (N : Nat) (ps : List Nat) : ∀ W, (turns N W ps).length = W.length := by
  induction ps with
  | nil => intro W; rfl
  | cons p ps ih => intro W; exact (ih _).trans (flipB_length _ _)
theorem turns_snoc (N : Nat) (W : List UInt8) (ps : List Nat) (p : Nat) : turns N W (ps ++ [p]) = flipB (turns N W ps) (N - 1 - p) := by unfold turns; rw [List.foldl_append]; rfl
/-- texts are told by their bits -/
theorem bytes_ext {a b : List UInt8} (hl : a.length = b.length) (h : ∀ q, q < 8 * a.length → dbit a q = dbit b q) : a = b := by
  apply List.ext_getElem hl
  intro i h1 h2
  apply UInt8.toNat_inj.1
  apply Nat.eq_of_testBit_eq
  intro k
  by_cases hk : k < 8
  · have := h (8 * i + (7 - k)) (by omega)
    unfold dbit bb at this
    rw [show (8 * i + (7 - k)) / 8 = i by omega, show (8 * i + (7 - k)) % 8 = 7 - k by omega, show 7 - (7 - k) = k by omega, List.getD_eq_getElem?_getD, List.getD_eq_getElem?_getD, List.getElem?_eq_getElem h1, List.getElem?_eq_getElem h2] at this
    exact this
  · rw [Nat.testBit_lt_two_pow (Nat.lt_of_lt_of_le a[i].toNat_lt (Nat.pow_le_pow_right (show 0 < 2 by omega) (show 8 ≤ k by omega))), Nat.testBit_lt_two_pow (Nat.lt_of_lt_of_le b[i].toNat_lt (Nat.pow_le_pow_right (show 0 < 2 by omega) (show 8 ≤ k by omega)))]
theorem dbit_txt (x : Nat → Bool) (i q : Nat) (hi : ∀ j, i ≤ j → x j = false) : dbit (txt x i) q = x q := by
  unfold dbit bb
  by_cases h : q / 8 < (txt x i).length
  · rw [List.getD_eq_getElem?_getD, List.getElem?_eq_getElem h, Option.getD_some, txt_get, UInt8.toNat_ofNat', Nat.mod_eq_of_lt (by8_lt _ _ (by omega)), by8_bit _ _ (by omega)]
    rw [decide_eq_true (show 7 - q % 8 < 8 by omega), Bool.true_and, show 7 - (7 - q % 8) = q % 8 by omega, show 8 * (q / 8) + q % 8 = q by omega]
    by_cases h2 : q < i
    · rw [decide_eq_true (show q % 8 < min 8 (i - 8 * (q / 8)) by omega), Bool.true_and]
    · rw [hi q (by omega), Bool.and_false]
  · rw [txt_length] at h
    rw [List.getD_eq_getElem?_getD, List.getElem?_eq_none (by rw [txt_length]; omega), hi q (by omega)]
    exact Nat.zero_testBit _
/-- the places by which a rest is told: ascending, in a word of N bits, no more than t -/
def Good (t N : Nat) (r : Rm) (ps : List Nat) : Prop := ps.Pairwise (· < ·) ∧ (∀ p ∈ ps, p < N) ∧ ps.length ≤ t ∧ ∀ K, 1 ≤ K → K ≤ 2 * t → evR (13 * t) K r = lsum (ps.map al) (fun X => pow X K)
theorem wv_code (t : Nat) (h8 : t ≤ 8) (h1 : 1 ≤ t) (tl : List Int) (htl : ∀ k, k < tl.length → ∃ e : Nat, tl.getD k 0 = (e : Int) ∧ e < 13 * t) (hT : (tailR (13 * t) tl).Ok) {K : Nat} (hR : Root (13 * t) K (tailR (13 * t) tl)) (a : List UInt8) :
    wv K (a ++ textL (regs (tailR (13 * t) tl) a (8 * a.length)) ((13 * t + 7) / 8)) (8 * a.length + 13 * t) = 0 := by
  have hreg := regs_ok hT a (8 * a.length)
  have hhigh := fun j hj => regs_high (13 * t) (by omega) tl htl hT a (8 * a.length) j hj
  have e : (regs (tailR (13 * t) tl) a (8 * a.length)).plus (regs (tailR (13 * t) tl) a (8 * a.length)) = Rm.zero := Rm.ext' (Nat.xor_self _) (Nat.xor_self _)
  rw [← wv_rest (by omega) (by omega) htl hT hR a _ (regs (tailR (13 * t) tl) a (8 * a.length)) (fun j hj => by rw [textL_txt hreg (13 * t) hhigh, dbit_txt _ _ _ hhigh]), e, evR_zero]
/-- power sums tell which -/
theorem same_places {l l' : List F} {t : Nat} (hn : l.Nodup) (hn' : l'.Nodup) (hz : ∀ X ∈ l, X ≠ 0) (hz' : ∀ X ∈ l', X ≠ 0) (hl : l.length ≤ t) (hl' : l'.length ≤ t) (h : ∀ K, 1 ≤ K → K ≤ 2 * t → lsum l (fun X => pow X K) = lsum l' (fun X => pow X K)) : ∀ X, X ∈ l → X ∈ l' := by
  intro X hX
  by_cases hX' : X ∈ l'
  · exact hX'
  · exfalso
    -- the two lists as one, without repeats
    let u := l ++ l'.filter fun Y => decide (Y ∉ l)
    let c : F → F := fun Y => fx (decide (Y ∈ l)) Y + fx (decide (Y ∈ l')) Y
    have hu : u.Nodup := List.nodup_append.2 ⟨hn, hn'.filter _, fun a ha b hb e => by
      have := (List.mem_filter.1 hb).2
      exact absurd (e ▸ ha) (of_decide_eq_true this)⟩
    have hsub : ∀ (v w : List F) (g : F → F), v.Nodup → w.Nodup → (∀ Y ∈ w, Y ∈ v) → lsum v (fun Y => fx (decide (Y ∈ w)) (g Y)) = lsum w g := by
      intro v
      induction v with
      | nil =>
        intro w g _ _ hw
        cases w with
        | nil => rfl
        | cons Y _ => exact absurd (hw Y List.mem_cons_self) (by simp)
      | cons Z v ih =>
        intro w g hv hw hs
        obtain ⟨hZ, hv2⟩ := List.nodup_cons.1 hv
        show fx (decide (Z ∈ w)) (g Z) + lsum v _ = lsum w g
        by_cases hZw : Z ∈ w
        · have e1 : lsum w g = g Z + lsum (w.erase Z) g := by
            clear ih hs
            induction w with
            | nil => cases hZw
            | cons Y w ihw =>
              by_cases e : Y = Z
              · subst e; rw [List.erase_cons_head]; rfl
              · rw [List.erase_cons_tail (by simpa using e)]
                show g Y + lsum w g = g Z + (g Y + _)
                rw [ihw (List.nodup_cons.1 hw).2 (by rcases List.mem_cons.1 hZw with h | h; exact absurd h.symm e; exact h), add_left_comm]
          have e2 := ih (w.erase Z) g hv2 (hw.erase Z) (fun Y hY => by
            have hYw := List.mem_of_mem_erase hY
            rcases List.mem_cons.1 (hs Y hYw) with h | h
            · subst h; exact absurd hY (fun h => (List.Nodup.mem_erase_iff hw).1 h |>.1 rfl)
            · exact h)
          rw [e1, decide_eq_true hZw, ← e2]
          show g Z + _ = g Z + _
          congr 1
          refine lsum_congr fun Y hY => ?_
          have hne : Y ≠ Z := fun e => hZ (e ▸ hY)
          by_cases hYw : Y ∈ w
          · rw [decide_eq_true hYw, decide_eq_true ((List.mem_erase_of_ne hne).2 hYw)]
          · rw [decide_eq_false hYw, decide_eq_false (fun h => hYw ((List.mem_erase_of_ne hne).1 h))]
        · rw [decide_eq_false hZw]
          show (0 : F) + _ = _
          rw [zero_add]
          exact ih w g hv2 hw fun Y hY => by
            rcases List.mem_cons.1 (hs Y hY) with h | h
            · exact absurd (h ▸ hY) hZw
            · exact h
    have hlu : ∀ Y ∈ l, Y ∈ u := fun Y hY => List.mem_append_left _ hY
    have hlu' : ∀ Y ∈ l', Y ∈ u := fun Y hY => by
      by_cases h : Y ∈ l
      · exact hlu Y h
      · exact List.mem_append_right _ (List.mem_filter.2 ⟨hY, decide_eq_true h⟩)
    have hlen : u.length ≤ 2 * t := by
      have := List.length_filter_le (fun Y => decide (Y ∉ l)) l'
      show (l ++ _).length ≤ _
      rw [List.length_append]
      omega
    have hc := vand (fun Y => Y) u c hu (fun _ _ _ _ h => h) (fun m hm => by
      have e1 := hsub u l (fun Y => pow Y (m + 1)) hu hn hlu
      have e2 := hsub u l' (fun Y => pow Y (m + 1)) hu hn' hlu'
      have e3 : lsum u (fun Y => c Y * pow Y m) = lsum u (fun Y => fx (decide (Y ∈ l)) (pow Y (m + 1))) + lsum u (fun Y => fx (decide (Y ∈ l')) (pow Y (m + 1))) := by
        rw [← lsum_add]
        refine lsum_congr fun Y _ => ?_
        show (fx _ Y + fx _ Y) * pow Y m = _
        rw [add_mul, mul_comm, fx_mul, mul_comm (fx _ Y), fx_mul]
        rfl
      rw [e3, e1, e2, h (m + 1) (by omega) (by omega), add_self]) X (hlu X hX)
    have : c X = X := by
      show fx (decide (X ∈ l)) X + fx (decide (X ∈ l')) X = X
      rw [decide_eq_true hX, decide_eq_false hX']
      exact add_zero X
    rw [this] at hc
    exact hz X hX hc
theorem al_map_nodup {ps : List Nat} (h : ps.Pairwise (· < ·)) (hN : ∀ p ∈ ps, p < 8191) : (ps.map al).Nodup := by
  rw [List.nodup_iff_pairwise_ne, List.pairwise_map]
  exact List.Pairwise.imp_of_mem (fun {a b} ha hb hab e => by have := al_inj (hN a ha) (hN b hb) e; omega) h
theorem al_map_ne {ps : List Nat} : ∀ X ∈ ps.map al, X ≠ 0 := fun X hX => by
  obtain ⟨p, _, rfl⟩ := List.mem_map.1 hX
  exact al_ne p
theorem al_map_mem {ps : List Nat} (hN : ∀ p ∈ ps, p < 8191) {q : Nat} (hq : q < 8191) : al q ∈ ps.map al ↔ q ∈ ps := by
  constructor
  · intro h
    obtain ⟨p, hp, e⟩ := List.mem_map.1 h
    rw [← al_inj (hN p hp) hq e]; exact hp
  · intro h; exact List.mem_map_of_mem h
theorem asc_ext : ∀ (a b : List Nat), a.Pairwise (· < ·) → b.Pairwise (· < ·) → (∀ x, x ∈ a ↔ x ∈ b) → a = b := by
  intro a
  induction a with
  | nil =>
    intro b _ _ h
    cases b with
    | nil => rfl
    | cons y _ => exact absurd ((h y).2 List.mem_cons_self) (by simp)
  | cons x a ih =>
    intro b ha hb h
    cases b with
    | nil => exact absurd ((h x).1 List.mem_cons_self) (by simp)
    | cons y b =>
      obtain ⟨hx, ha'⟩ := List.pairwise_cons.1 ha
      obtain ⟨hy, hb'⟩ := List.pairwise_cons.1 hb
      have e : x = y := by
        rcases List.mem_cons.1 ((h x).1 List.mem_cons_self) with e | h1
        · exact e
        · rcases List.mem_cons.1 ((h y).2 List.mem_cons_self) with e | h2
          · exact e.symm
          · have := hx y h2; have := hy x h1; omega
      subst e
      congr 1
      refine ih b ha' hb' fun z => ?_
      constructor
      · intro hz
        rcases List.mem_cons.1 ((h z).1 (List.mem_cons_of_mem _ hz)) with e | h1
        · have := hx z hz; omega
        · exact h1
      · intro hz
        rcases List.mem_cons.1 ((h z).2 (List.mem_cons_of_mem _ hz)) with e | h1
        · have := hy z hz; omega
        · exact h1
/-- there is never more than one -/
theorem good_unique {t N : Nat} {r : Rm} {ps ps' : List Nat} (hN : N ≤ 8191) (h : Good t N r ps) (h' : Good t N r ps') : ps = ps' := by
  obtain ⟨a1, a2, a3, a4⟩ := h
  obtain ⟨b1, b2, b3, b4⟩ := h'
  have ha : ∀ p ∈ ps, p < 8191 := fun p hp => by have := a2 p hp; omega
  have hb : ∀ p ∈ ps', p < 8191 := fun p hp => by have := b2 p hp; omega
  have e : ∀ K, 1 ≤ K → K ≤ 2 * t → lsum (ps.map al) (fun X => pow X K) = lsum (ps'.map al) (fun X => pow X K) := fun K k1 k2 => (a4 K k1 k2).symm.trans (b4 K k1 k2)
  refine asc_ext ps ps' a1 b1 fun x => ?_
  constructor
  · intro hx
    exact (al_map_mem hb (ha x hx)).1 (same_places (al_map_nodup a1 ha) (al_map_nodup b1 hb) al_map_ne al_map_ne (by rw [List.length_map]; exact a3) (by rw [List.length_map]; exact b3) e _ ((al_map_mem ha (ha x hx)).2 hx))
  · intro hx
    exact (al_map_mem ha (hb x hx)).1 (same_places (al_map_nodup b1 hb) (al_map_nodup a1 ha) al_map_ne al_map_ne (by rw [List.length_map]; exact b3) (by rw [List.length_map]; exact a3) (fun K k1 k2 => (e K k1 k2).symm) _ ((al_map_mem hb (hb x hx)).2 hx))
end Go.Proofs.YtjcmfaadoealgaaGreatDoor

/- Plain: what the search for roots finds is what tells the rest; lists of numbers of the field. -/
namespace Go.Proofs.YtjcmfaadoealgaaGreatDoor
open F
open Go.RowKit Pm
set_option linter.unusedVariables false
/-- a list of numbers of the field -/
def il (N : Nat) (g : Nat → F) : List Int := (List.range N).map fun i => ((g i).1 : Int)
theorem il_length (N : Nat) (g : Nat → F) : (il N g).length = N := by simp [il]
theorem il_getD (N : Nat) (g : Nat → F) (i : Nat) (h : i < N) : (il N g).getD i 0 = ((g i).1 : Int) := by simp [il, List.getD_eq_getElem?_getD, h]
theorem il_congr {N : Nat} {f g : Nat → F} (h : ∀ p, p < N → f p = g p) : il N f = il N g := List.map_congr_left fun p hp => by rw [h p (List.mem_range.1 hp)]
theorem il_set (N : Nat) (g : Nat → F) (q : Nat) (x : F) : (il N g).set q (x.1 : Int) = il N fun i => if i = q then x else g i := by
  apply List.ext_getElem
  · rw [List.length_set, il_length, il_length]
  · intro p h1 h2
    rw [List.getElem_set]
    simp only [il, List.getElem_map, List.getElem_range]
    split
    · rename_i e; rw [if_pos e.symm]
    · rename_i e; rw [if_neg (fun h => e h.symm)]
theorem il_take (N k : Nat) (g : Nat → F) (h : k ≤ N) : (il N g).take k = il k g := by
  unfold il
  rw [← List.map_take, List.take_range, Nat.min_eq_left h]
/-- what gap adds up -/
def gp (C S : Nat → F) (n i : Nat) : F := sm (fun i => C i * S (n - i)) i
theorem gp_all (C S : Nat → F) (n N : Nat) (h : ∀ i, N ≤ i → C i = 0) : gp C S n (min N (n + 1)) = cv C S n := by
  unfold gp cv
  exact (sm_more (by omega) fun i h1 h2 => by rw [h i (by omega), zero_mul]).symm
/-- what mended has behind j rounds -/
def mendQ (C B : Nat → F) (f : F) (m j i : Nat) : F := C i + (if m ≤ i ∧ i < m + j then f * B (i - m) else 0)
theorem mendQ_zero (C B : Nat → F) (f : F) (m : Nat) : mendQ C B f m 0 = C := by
  funext i; unfold mendQ; rw [if_neg (by omega), add_zero]
theorem mendQ_succ (C B : Nat → F) (f : F) (m j : Nat) : mendQ C B f m (j + 1) = fun i => if i = j + m then mendQ C B f m j (j + m) + f * B j else mendQ C B f m j i := by
  funext i
  unfold mendQ
  split
  · rename_i e
    split
    · rename_i e2
      subst e2
      rw [if_neg (by omega), add_zero, show j + m - m = j by omega]
    · rename_i e2
      rw [if_pos (by omega)]
  · rename_i e
    split
    · omega
    · rename_i e2; rw [if_neg (by omega)]
theorem mendQ_all (C B : Nat → F) (f : F) (m N : Nat) (h : ∀ i, N ≤ i → B i = 0) : mendQ C B f m N = mend C B f m := by
  funext i
  unfold mendQ mend upBy
  congr 1
  by_cases h1 : m ≤ i
  · rw [if_pos h1]
    by_cases h2 : i < m + N
    · rw [if_pos ⟨h1, h2⟩]
    · rw [if_neg (by omega), h (i - m) (by omega), mul_zero]
  · rw [if_neg h1, if_neg (by omega), mul_zero]
theorem mend_far (C B : Nat → F) (f : F) (m N M : Nat) (h : ∀ i, N ≤ i → C i = 0) (h' : ∀ i, M ≤ i → B i = 0) : ∀ i, max N (M + m) ≤ i → mend C B f m i = 0 := fun i hi => by
  unfold mend upBy
  rw [h i (by omega), zero_add]
  split
  · rw [h' _ (by omega), mul_zero]
  · exact mul_zero _
/-- a power by any exponent -/
def alI (a : Int) : F := al (trn a)
theorem alI_nat (n : Nat) : alI (n : Int) = al n := by
  have e : trn (n : Int) = n % 8191 := by unfold trn; omega
  unfold alI
  rw [e, al_mod]
theorem alI_add (a b : Int) : alI (a + b) = alI a * alI b := by
  have e : trn (a + b) = (trn a + trn b) % 8191 := by unfold trn; omega
  unfold alI
  rw [← al_add, e, al_mod]
/-- the logarithm, -1 for 0 -/
def lgI (x : F) : Int := if x = 0 then -1 else (Gfm.lg x.1 : Int)
theorem al_of_eq (n : Nat) (x : F) (h : Gfm.pw n = x.1) : al n = x := F.ext h
theorem val_pos {x : F} (h : x ≠ 0) : 0 < x.1 := by
  rcases Nat.eq_zero_or_pos x.1 with h0 | h0
  · exact absurd (F.ext h0) h
  · exact h0
theorem lg_al {x : F} (h : x ≠ 0) : al (Gfm.lg x.1) = x := al_of_eq _ x (Gfm.pw_lg x.1 (val_pos h) x.2)
theorem lg_of_al {m : Nat} (h : m < 8191) : Gfm.lg (al m).1 = m := al_inj (Gfm.lg_lt _) h (lg_al (al_ne m))
/-- what isRoot adds up: the coefficients by falling powers -/
def rtq (C : Nat → F) (p m : Nat) : F := sm (fun i => C i * alI (-((i : Int) * (p : Int)))) m
theorem rtq_zero (C : Nat → F) (p L : Nat) : rtq C p (L + 1) = 0 ↔ cv C (pow (al p)) L = 0 := by
  have e : al (p * L) * rtq C p (L + 1) = cv C (pow (al p)) L := by
    unfold rtq cv
    rw [← sm_mul]
    refine sm_congr fun i hi => ?_
    rw [pow_al, show al (p * L) * (C i * alI (-((i : Int) * (p : Int)))) = C i * (al (p * L) * alI (-((i : Int) * (p : Int)))) by ac_rfl, ← alI_nat (p * L), ← alI_add, ← alI_nat (p * (L - i))]
    congr 2
    obtain ⟨q, rfl⟩ : ∃ q, L = i + q := ⟨L - i, by omega⟩
    rw [Nat.add_sub_cancel_left]
    rw [Nat.mul_add, Int.natCast_add, Int.natCast_mul, Int.natCast_mul, Int.mul_comm (i : Int)]
    omega
  rw [← e]
  constructor
  · intro h; rw [h, mul_zero]
  · intro h
    rcases mul_eq_zero h with h | h
    · exact absurd h (al_ne _)
    · exact h
theorem lamQ_snoc (Y : F) (l : List F) : lamQ (mulX unit Y) l = lam (l ++ [Y]) := by
  induction l with
  | nil => rfl
  | cons X r ih => show mulX (lamQ _ r) X = mulX (lam (r ++ [Y])) X; rw [ih]
theorem lsum_append (a b : List F) (g : F → F) : lsum (a ++ b) g = lsum a g + lsum b g := by
  induction a with
  | nil => exact (zero_add _).symm
  | cons X r ih => show g X + lsum (r ++ b) g = (g X + lsum r g) + _; rw [ih, add_assoc]
theorem asc_split (k : Nat) : ∀ a : List Nat, a.Pairwise (· < ·) → a = a.filter (fun x => decide (x < k)) ++ a.filter (fun x => decide (k ≤ x)) := by
  intro a
  induction a with
  | nil => intro _; rfl
  | cons x a ih =>
    intro h
    obtain ⟨hx, ha⟩ := List.pairwise_cons.1 h
    by_cases e : x < k
    · rw [List.filter_cons_of_pos (by simpa using e), List.filter_cons_of_neg (by simpa using e), List.cons_append, ← ih ha]
    · have : ∀ y ∈ a, ¬ y < k := fun y hy => by have := hx y hy; omega
      rw [List.filter_cons_of_neg (by simpa using e), List.filter_cons_of_pos (by simp; omega), List.filter_eq_nil_iff.2 (fun y hy => by simpa using this y hy), List.nil_append, List.filter_eq_self.2 (fun y hy => by have := this y hy; simp; omega)]
/-- the roots below a place -/
noncomputable def rts (C : Nat → F) (L place : Nat) : List Nat := (List.range place).filter fun p => decide (cv C (pow (al p)) L = 0)
theorem rts_asc (C : Nat → F) (L place : Nat) : (rts C L place).Pairwise (· < ·) := List.Pairwise.filter _ (List.pairwise_lt_range)
theorem rts_mem {C : Nat → F} {L place p : Nat} : p ∈ rts C L place ↔ p < place ∧ cv C (pow (al p)) L = 0 := by
  unfold rts
  rw [List.mem_filter, List.mem_range]
  exact ⟨fun h => ⟨h.1, of_decide_eq_true h.2⟩, fun h => ⟨h.1, decide_eq_true h.2⟩⟩
theorem rts_succ (C : Nat → F) (L place : Nat) : rts C L (place + 1) = if cv C (pow (al place)) L = 0 then rts C L place ++ [place] else rts C L place := by
  unfold rts
  rw [List.range_succ, List.filter_append]
  split
  · rename_i h
    congr 1
    rw [List.filter_cons_of_pos (by simpa using h)]; rfl
  · rename_i h
    rw [List.filter_cons_of_neg (by simpa using h)]; exact List.append_nil _
/-- the state behind the way of Berlekamp and Massey -/
structure Rule (t : Nat) (r : Rm) (C : Nat → F) (L : Nat) : Prop where
  gen : Gen C L (fun j => evR (13 * t) (j + 1) r) (2 * t)
  least : ∀ C' L', Gen C' L' (fun j => evR (13 * t) (j + 1) r) (2 * t) → L ≤ L'
theorem good_rule {t N : Nat} {r : Rm} {C : Nat → F} {L : Nat} (hN : N ≤ 8191) (h : Rule t r C L) {ps : List Nat} (hg : Good t N r ps) : ps.length = L ∧ C = lam (ps.map al) := by
  obtain ⟨a1, a2, a3, a4⟩ := hg
  have ha : ∀ p ∈ ps, p < 8191 := fun p hp => by have := a2 p hp; omega
  have := complete (al_map_nodup a1 ha) al_map_ne (by rw [List.length_map]; exact a3) (fun j hj => a4 (j + 1) (by omega) (by omega)) h.gen h.least
  rw [List.length_map] at this
  exact this
/-- a rule that is too long, or shorter than it says, tells no places -/
theorem good_none {t N : Nat} {r : Rm} {C : Nat → F} {L : Nat} (hN : N ≤ 8191) (h : Rule t r C L) (hbad : t < L ∨ C L = 0) (ps : List Nat) : ¬ Good t N r ps := fun hg => by
  obtain ⟨e1, e2⟩ := good_rule hN h hg
  rcases hbad with hb | hb
  · have := hg.2.2.1; omega
  · rw [e2, ← e1] at hb
    have := lam_top (l := ps.map al) al_map_ne
    rw [List.length_map] at this
    exact this hb
theorem good_few {t N : Nat} {r : Rm} {C : Nat → F} {L : Nat} (hN : N ≤ 8191) (h : Rule t r C L) (hf : (rts C L N).length < L - 1) (ps : List Nat) : ¬ Good t N r ps := fun hg => by
  obtain ⟨e1, e2⟩ := good_rule hN h hg
  have ha : ∀ p ∈ ps, p < 8191 := fun p hp => by have := hg.2.1 p hp; omega
  have : ps = rts C L N := asc_ext _ _ hg.1 (rts_asc C L N) fun x => by
    rw [rts_mem, e2]
    constructor
    · intro hx
      refine ⟨hg.2.1 x hx, ?_⟩
      rw [← e1, ← List.length_map (f := al), lam_value]
      exact List.mem_map_of_mem hx
    · rintro ⟨h1, h2⟩
      rw [← e1, ← List.length_map (f := al), lam_value] at h2
      exact (al_map_mem ha (by omega)).1 h2
  rw [← this] at hf
  omega
theorem last_of {t : Nat} {r : Rm} {C : Nat → F} {L place : Nat} (h : Rule t r C L) (hp : place ≤ 8191) (hL : 1 ≤ L) (hlen : (rts C L place).length = L - 1) :
    C = lam ((rts C L place).map al ++ [C 1 + lsum ((rts C L place).map al) (fun X => X)]) := by
  have ha : ∀ p ∈ rts C L place, p < 8191 := fun p hp' => by have := (rts_mem.1 hp').1; omega
  obtain ⟨h1, Q, q1, q2, q3⟩ := factor ((rts C L place).map al) C L (al_map_nodup (rts_asc C L place) ha) h.gen.1 h.gen.2.1 (fun X hX => by
    obtain ⟨p, hp', rfl⟩ := List.mem_map.1 hX
    exact (rts_mem.1 hp').2)
  rw [List.length_map, hlen] at q2
  generalize (rts C L place).map al = l at *
  have hC1 := lamQ_one Q q1 l
  rw [← q3] at hC1
  have hQ : Q = mulX unit (C 1 + lsum l fun X => X) := by
    funext i
    match i with
    | 0 => rw [q1, mulX_zero]; rfl
    | 1 => rw [mulX_succ, hC1]; show _ = (0 : F) + (lsum l _ + Q 1 + lsum l _) * 1; rw [zero_add, mul_one, add_comm (lsum l _), add_assoc, add_self, add_zero]
    | i + 2 => rw [q2 (i + 2) (by omega), mulX_succ, unit_deg _ (by omega), unit_deg _ (by omega), mul_zero, add_zero]
  rw [← lamQ_snoc, ← hQ]
  exact q3
/-- what the search found, and the last one: all is told -/
theorem good_last {t N : Nat} {r : Rm} {C : Nat → F} {L place : Nat} (ht : 1 ≤ t) (hN : N ≤ 8191) (hp : place ≤ N) (h : Rule t r C L) (hL : 1 ≤ L) (hLt : L ≤ t) (hCL : C L ≠ 0) (hlen : (rts C L place).length = L - 1) :
    C 1 + lsum ((rts C L place).map al) (fun X => X) ≠ 0 ∧
    ∀ q, q = Gfm.lg (C 1 + lsum ((rts C L place).map al) (fun X => X)).1 → ∀ ps, Good t N r ps ↔ (q < N ∧ (∀ p ∈ rts C L place, p < q)) ∧ ps = rts C L place ++ [q] := by
  have ha : ∀ p ∈ rts C L place, p < 8191 := fun p hp' => by have := (rts_mem.1 hp').1; omega
  have hC := last_of h (by omega) hL hlen
  have hasc := rts_asc C L place
  have hmem : ∀ p, p ∈ rts C L place ↔ p < place ∧ cv C (pow (al p)) L = 0 := fun p => rts_mem
  generalize rts C L place = rs at *
  generalize hY : C 1 + lsum (rs.map al) (fun X => X) = Y at *
  have hY0 : Y ≠ 0 := fun e => by
    apply hCL
    rw [hC, e]
    have : ∀ l : List F, lam (l ++ [0]) = lam l := fun l => by
      rw [← lamQ_snoc]
      have e0 : mulX unit 0 = unit := by funext i; unfold mulX; rw [zero_mul, add_zero]
      rw [e0]; rfl
    rw [this]
    exact lam_deg _ _ (by rw [List.length_map]; omega)
  refine ⟨hY0, fun q hq ps => ⟨fun hg => ?_, ?_⟩⟩
  · obtain ⟨e1, e2⟩ := good_rule hN h hg
    have hps : ∀ p ∈ ps, p < 8191 := fun p hp => by have := hg.2.1 p hp; omega
    have hroot : ∀ x, x < 8191 → (x ∈ ps ↔ cv C (pow (al x)) L = 0) := fun x hx => by
      rw [e2, ← e1, ← List.length_map (f := al), lam_value, al_map_mem hps hx]
    have hsp := asc_split place ps hg.1
    have hlow : ps.filter (fun x => decide (x < place)) = rs := asc_ext _ _ (List.Pairwise.filter _ hg.1) hasc fun x => by
      rw [List.mem_filter, hmem]
      constructor
      · rintro ⟨h1, h2⟩
        exact ⟨of_decide_eq_true h2, (hroot x (hps x h1)).1 h1⟩
      · rintro ⟨h1, h2⟩
        exact ⟨(hroot x (by omega)).2 h2, decide_eq_true h1⟩
    rw [hlow] at hsp
    obtain ⟨x, hx⟩ : ∃ x, ps.filter (fun x => decide (place ≤ x)) = [x] := by
      have : (ps.filter (fun x => decide (place ≤ x))).length = 1 := by
        have := congrArg List.length hsp
        rw [List.length_append, e1, hlen] at this
        omega
      exact List.length_eq_one_iff.1 this
    have hxm : x ∈ ps ∧ place ≤ x := by
      have := List.mem_filter.1 (show x ∈ ps.filter (fun x => decide (place ≤ x)) by rw [hx]; exact List.mem_singleton.2 rfl)
      exact ⟨this.1, of_decide_eq_true this.2⟩
    rw [hx] at hsp
    have hxq : x = q := by
      have e3 : C 1 = lsum (ps.map al) (fun X => X) := by
        rw [e2]
        show lamQ unit _ 1 = _
        rw [lamQ_one unit rfl]
        exact add_zero _
      have : Y = al x := by
        rw [← hY, e3, hsp, List.map_append, lsum_append]
        show lsum (rs.map al) _ + (al x + 0) + lsum (rs.map al) _ = _
        rw [add_zero, add_comm (lsum (rs.map al) _), add_assoc, add_self, add_zero]
      rw [hq, this, lg_of_al (hps x hxm.1)]
    subst hxq
    exact ⟨⟨hg.2.1 x hxm.1, fun p hp => by have := ((hmem p).1 hp).1; omega⟩, hsp⟩
  · rintro ⟨⟨h1, h2⟩, rfl⟩
    have hYq : al q = Y := by rw [hq]; exact lg_al hY0
    have hasc2 : (rs ++ [q]).Pairwise (· < ·) := List.pairwise_append.2 ⟨hasc, List.pairwise_singleton _ _, fun a ha b hb => by rw [List.mem_singleton.1 hb]; exact h2 a ha⟩
    have hlt : ∀ p ∈ rs ++ [q], p < N := fun p hp => by
      rcases List.mem_append.1 hp with h3 | h3
      · have := ((hmem p).1 h3).1; omega
      · rw [List.mem_singleton.1 h3]; exact h1
    have hl2 : (rs ++ [q]).length = L := by rw [List.length_append, hlen]; show L - 1 + 1 = L; omega
    have hC2 : C = lam ((rs ++ [q]).map al) := by rw [List.map_append]; show C = lam (rs.map al ++ [al q]); rw [hYq]; exact hC
    refine ⟨hasc2, hlt, by rw [hl2]; exact hLt, fun K k1 k2 => ?_⟩
    have hs := sound (l := (rs ++ [q]).map al) (S := fun j => evR (13 * t) (j + 1) r) (t := t) (al_map_nodup hasc2 fun p hp => by have := hlt p hp; omega) al_map_ne (by rw [List.length_map, hl2]; exact hLt)
      (fun j _ => by show evR (13 * t) (2 * j + 1 + 1) r = _; rw [show 2 * j + 1 + 1 = 2 * (j + 1) by omega, evR_two])
      (by rw [List.length_map, hl2, ← hC2]; exact h.gen) (by rw [List.length_map, hl2]; exact h.least) (K - 1) (by omega)
    have e4 : K - 1 + 1 = K := by omega
    simp only [e4] at hs
    rw [hs]
    exact lsum_congr fun X _ => by show pow X (K - 1 + 1) = _; rw [e4]
theorem good_zero (t N : Nat) (ht : 1 ≤ t) (hN : N ≤ 8191) (ps : List Nat) : Good t N Rm.zero ps ↔ ps = [] := by
  have h0 : Good t N Rm.zero [] := ⟨List.Pairwise.nil, fun p hp => (by cases hp), Nat.zero_le _, fun K _ _ => evR_zero _ _⟩
  exact ⟨fun h => good_unique hN h h0, fun h => h ▸ h0⟩
/-- where there is a rest, there is a place -/
theorem rule_pos {t : Nat} (h1 : 1 ≤ t) (h8 : t ≤ 8) {r : Rm} (hr : r.Ok) (hz : ∀ j, 13 * t ≤ j → rb r j = false) {C : Nat → F} {L : Nat} (h : Rule t r C L) (hne : r ≠ Rm.zero) : 1 ≤ L := by
  by_cases h0 : L = 0
  · exfalso
    apply hne
    subst h0
    refine rest_zero t h1 h8 r hr hz fun K k1 k2 => ?_
    have := h.gen.2.2 (K - 1) (by omega) (by omega)
    have e : C = unit := by
      funext i
      unfold unit
      split
      · rename_i e; rw [e, h.gen.1]
      · exact h.gen.2.1 i (by omega)
    rw [e, cv_unit] at this
    have e4 : K - 1 + 1 = K := by omega
    simp only [e4] at this
    exact this
  · omega
end Go.Proofs.YtjcmfaadoealgaaGreatDoor
