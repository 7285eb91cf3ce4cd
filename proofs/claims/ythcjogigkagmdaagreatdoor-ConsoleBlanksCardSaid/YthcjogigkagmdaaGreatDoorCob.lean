/- Numbers as texts, plain: what Atoi and Itoa tell is what the grammar of numbers tells. -/
import Derived.Test.YthcjogigkagmdaaGreatDoorCoa
import Derived.Lib.AtoiErr
import Derived.Lib.AtoiTie
namespace Go.Proofs.YthcjogigkagmdaaGreatDoor.Con
open Go.Lib

theorem dec_snoc (b : UInt8) : ∀ (l : List UInt8) (acc : Nat), decFrom acc (l ++ [b]) = (decFrom acc l).bind fun n => (digitVal b).map fun d => n * 10 + d
  | [], acc => by
    simp only [List.nil_append, decFrom]
    cases digitVal b <;> rfl
  | c :: l, acc => by
    simp only [List.cons_append, decFrom]
    cases digitVal c with
    | none => rfl
    | some d => exact dec_snoc b l _
theorem digit_byte {b : UInt8} {d : Nat} (h : digitVal b = some d) : b = UInt8.ofNat (48 + d) ∧ d < 10 := by
  obtain ⟨h1, h2, h3⟩ := digitVal_eq h
  refine ⟨?_, by omega⟩
  have : 48 + d = b.toNat := by omega
  rw [this]
  simp
theorem dig_iff (b : UInt8) : isDig b = (digitVal b).isSome := by
  unfold isDig digitVal
  by_cases h : 48 ≤ b.toNat ∧ b.toNat ≤ 57
  · rw [if_pos h, decide_eq_true h.1, decide_eq_true h.2]; rfl
  · rw [if_neg h]
    simp only [Option.isSome_none, Bool.and_eq_false_iff, decide_eq_false_iff_not]
    omega
theorem dec_all : ∀ (l : List UInt8) (acc : Nat), (decFrom acc l).isSome = l.all isDig
  | [], acc => rfl
  | b :: l, acc => by
    rw [List.all_cons, dig_iff, decFrom]
    cases digitVal b with
    | none => rfl
    | some d => simp [dec_all l]
theorem dd_big (n d : Nat) (hn : 1 ≤ n) (hd : d < 10) : decDigits (n * 10 + d) = decDigits n ++ [UInt8.ofNat (48 + d)] := by
  rw [decDigits, dif_neg (by omega)]
  have h1 : (n * 10 + d) / 10 = n := by omega
  have h2 : (n * 10 + d) % 10 = d := by omega
  rw [h1, h2]
theorem dd_ne (m : Nat) : decDigits m ≠ [] := by
  rw [decDigits]
  split <;> simp
theorem ofNat_ne (m : Nat) (h1 : 1 ≤ m) (h2 : m < 10) : UInt8.ofNat (48 + m) ≠ 48 := by
  intro e
  have := congrArg UInt8.toNat e
  simp at this
  omega
theorem dd_head (m : Nat) : 1 ≤ m → (decDigits m).head? ≠ some 48 := by
  induction m using Nat.strongRecOn with
  | ind m ih =>
    intro hm
    rw [decDigits]
    split
    · rename_i h
      simpa using ofNat_ne m hm h
    · rename_i h
      have := ih (m / 10) (by omega) (by omega)
      obtain ⟨c, r, e⟩ := List.exists_cons_of_ne_nil (dd_ne (m / 10))
      rw [e] at this ⊢
      exact this
theorem dd_val (m : Nat) : decFrom 0 (decDigits m) = some m := by
  induction m using Nat.strongRecOn with
  | ind m ih =>
    rw [decDigits]
    have hdv : ∀ d, d < 10 → digitVal (UInt8.ofNat (48 + d)) = some d := by
      intro d hd
      unfold digitVal
      have : (UInt8.ofNat (48 + d)).toNat = 48 + d := by simp; omega
      rw [this, if_pos (by omega)]
      congr 1; omega
    split
    · rename_i h
      show (match digitVal (UInt8.ofNat (48 + m)) with | some d => decFrom (0 * 10 + d) [] | none => none) = some m
      rw [hdv m h]
      show some (0 * 10 + m) = some m
      congr 1; omega
    · rename_i h
      rw [dec_snoc, ih (m / 10) (by omega), hdv _ (by omega)]
      show some (m / 10 * 10 + m % 10) = some m
      congr 1; omega
/-- one numeral for each number -/
theorem dd_of (k : Nat) : ∀ (r : List UInt8) (m : Nat), r.length = k → r ≠ [] → decFrom 0 r = some m → (r.length = 1 ∨ r.head? ≠ some 48) → decDigits m = r := by
  induction k with
  | zero => intro r m h h0; exact absurd (List.eq_nil_of_length_eq_zero h) h0
  | succ k ih =>
    intro r m hk h0 hm hc
    obtain ⟨l, b, rfl⟩ : ∃ l b, r = l ++ [b] := ⟨r.dropLast, r.getLast h0, (List.dropLast_concat_getLast h0).symm⟩
    rw [dec_snoc] at hm
    cases hl : decFrom 0 l with
    | none => rw [hl] at hm; cases hm
    | some n =>
      rw [hl] at hm
      cases hd : digitVal b with
      | none => rw [hd] at hm; cases hm
      | some d =>
        rw [hd] at hm
        have e : m = n * 10 + d := (Option.some.inj hm).symm
        obtain ⟨e1, e2⟩ := digit_byte hd
        by_cases h9 : l = []
        · subst h9
          have : n = 0 := by simpa [decFrom] using hl.symm
          subst this
          rw [e, e1, Nat.zero_mul, Nat.zero_add, decDigits_one e2]; rfl
        · have hh : l.head? ≠ some 48 := by
            rcases hc with hc | hc
            · rw [List.length_append, List.length_singleton] at hc
              exact absurd (List.eq_nil_of_length_eq_zero (by omega)) h9
            · obtain ⟨c, t, rfl⟩ := List.exists_cons_of_ne_nil h9
              exact hc
          have hi := ih l n (by simpa using hk) h9 hl (.inr hh)
          have hn : 1 ≤ n := by
            rcases Nat.eq_zero_or_pos n with h | h
            · subst h
              rw [← hi, decDigits_one (by omega)] at hh
              exact absurd rfl hh
            · exact h
          rw [e, dd_big n d hn e2, hi, e1]
theorem dd_canon (m : Nat) : (decDigits m).length = 1 ∨ (decDigits m).head? ≠ some 48 := by
  rcases Nat.eq_zero_or_pos m with h | h
  · subst h; left; rw [decDigits_one (by omega)]; rfl
  · exact .inr (dd_head m h)
/-- what the program asks of an unquoted field -/
def progNum (a : List UInt8) : Option Int := if 9 < (trimPrefix a [45]).length then none else match atoi a with
  | some n => if itoa n = a then some n else none
  | none => none
theorem natF_eq (r : List UInt8) (h0 : r ≠ []) : natF r = if 9 < r.length then none else match decFrom 0 r with
    | some m => if decDigits m = r then some m else none
    | none => none := by
  unfold natF
  have h1 : 1 ≤ r.length := by
    rcases Nat.eq_zero_or_pos r.length with h | h
    · exact absurd (List.eq_nil_of_length_eq_zero h) h0
    · exact h
  rw [decide_eq_true h1, Bool.true_and]
  by_cases h9 : 9 < r.length
  · rw [if_pos h9, decide_eq_false (by omega), Bool.false_and, Bool.false_and, if_neg (by decide)]
  rw [if_neg h9, decide_eq_true (by omega), Bool.true_and, ← dec_all r 0]
  cases hd : decFrom 0 r with
  | none => rfl
  | some m =>
    rw [Option.isSome_some, Bool.true_and]
    show _ = if decDigits m = r then some m else none
    by_cases hc : r.length = 1 ∨ r.head? ≠ some 48
    · have e := dd_of r.length r m rfl h0 hd hc
      rw [if_pos e, if_pos]
      rcases hc with hc | hc
      · rw [decide_eq_true hc]; rfl
      · rw [Bool.or_eq_true]; right; simpa using hc
    · have e : ¬ decDigits m = r := fun e => hc (e ▸ dd_canon m)
      rw [if_neg e, if_neg]
      intro h
      rw [Bool.or_eq_true] at h
      rcases h with h | h
      · exact hc (.inl (of_decide_eq_true h))
      · exact hc (.inr (by simpa using h))
theorem natF_nil : natF [] = none := rfl
theorem trim_minus (r : List UInt8) : trimPrefix (45 :: r) [45] = r := by simp [trimPrefix, hasPrefix]
theorem trim_other (c : UInt8) (r : List UInt8) (h : c ≠ 45) : trimPrefix (c :: r) [45] = c :: r := by
  unfold trimPrefix
  rw [if_neg]
  simp only [hasPrefix, List.isPrefixOf, Bool.and_true, beq_iff_eq]
  exact fun e => h e.symm
theorem itoa_neg' (m : Nat) (r : List UInt8) : itoa (-(m : Int)) = 45 :: r ↔ m ≠ 0 ∧ decDigits m = r := by
  unfold itoa
  by_cases hm : m = 0
  · subst hm
    rw [if_neg (by omega)]
    have : decDigits (-((0 : Nat) : Int)).toNat = [48] := by
      show decDigits 0 = _
      rw [decDigits_one (by omega)]; rfl
    rw [this]
    exact ⟨(fun h => by cases h), fun h => absurd rfl h.1⟩
  · rw [if_pos (by omega)]
    have : (-(m : Int)).natAbs = m := by omega
    rw [this]
    exact ⟨fun h => ⟨hm, (List.cons.inj h).2⟩, fun h => by rw [h.2]⟩
theorem itoa_nat (m : Nat) : itoa (m : Int) = decDigits m := by
  unfold itoa
  rw [if_neg (by omega), Int.toNat_natCast]
theorem progNum_eq (a : List UInt8) : progNum a = numB a := by
  cases a with
  | nil => rfl
  | cons c r =>
    by_cases hc : c = 45
    · subst hc
      show progNum (45 :: r) = (match natF r with | some 0 => none | some n => some (-(n : Int)) | none => none)
      unfold progNum
      rw [trim_minus]
      have ha : atoi (45 :: r) = (decNat r).map fun (m : Nat) => -(m : Int) := rfl
      rw [ha]
      by_cases h0 : r = []
      · subst h0; rfl
      · rw [natF_eq r h0]
        have hn : decNat r = decFrom 0 r := by
          unfold decNat
          rw [if_neg (by simpa using h0)]
        rw [hn]
        by_cases h9 : 9 < r.length
        · rw [if_pos h9, if_pos h9]
        rw [if_neg h9, if_neg h9]
        cases hd : decFrom 0 r with
        | none => rfl
        | some m =>
          show (if itoa (-(m : Int)) = 45 :: r then some (-(m : Int)) else none) = (match (if decDigits m = r then some m else none) with | some 0 => none | some n => some (-(n : Int)) | none => none)
          by_cases e : decDigits m = r
          · rw [if_pos e]
            cases m with
            | zero => rw [if_neg (fun h => ((itoa_neg' 0 r).1 h).1 rfl)]; rfl
            | succ k => rw [if_pos ((itoa_neg' _ r).2 ⟨by omega, e⟩)]; rfl
          · rw [if_neg e, if_neg (fun h => e ((itoa_neg' m r).1 h).2)]
    · have hnum : numB (c :: r) = (natF (c :: r)).map fun (n : Nat) => (n : Int) := by
        unfold numB
        split
        · rename_i h; cases h; exact absurd rfl hc
        · rfl
      rw [hnum]
      unfold progNum
      rw [trim_other c r hc, natF_eq (c :: r) (by simp)]
      by_cases h9 : 9 < (c :: r).length
      · rw [if_pos h9, if_pos h9]; rfl
      rw [if_neg h9, if_neg h9]
      by_cases h43 : c = 43
      · subst h43
        have ha : atoi (43 :: r) = (decNat r).map fun (m : Nat) => (m : Int) := rfl
        have hd : decFrom 0 (43 :: r) = none := rfl
        rw [ha, hd]
        cases hn : decNat r with
        | none => rfl
        | some m =>
          show (if itoa (m : Int) = 43 :: r then some (m : Int) else none) = none
          rw [if_neg]
          rw [itoa_nat]
          intro e
          have h1 := dd_val m
          rw [e] at h1
          cases h1
      · have ha : atoi (c :: r) = (decNat (c :: r)).map fun (m : Nat) => (m : Int) := by
          show (if (c == 45) = true then _ else if (c == 43) = true then _ else _) = _
          rw [if_neg (by simpa using hc), if_neg (by simpa using h43)]
        have hn : decNat (c :: r) = decFrom 0 (c :: r) := rfl
        rw [ha, hn]
        cases hd : decFrom 0 (c :: r) with
        | none => rfl
        | some m =>
          show (if itoa (m : Int) = c :: r then some (m : Int) else none) = (if decDigits m = c :: r then some m else none).map fun (n : Nat) => (n : Int)
          rw [itoa_nat]
          by_cases e : decDigits m = c :: r
          · rw [if_pos e, if_pos e]; rfl
          · rw [if_neg e, if_neg e]; rfl
/-- a number that has a numeral of at most nine digits -/
def Nine (n : Int) : Prop := n.natAbs < 1000000000
theorem numB_nine {a : List UInt8} {n : Int} (h : numB a = some n) : Nine n ∧ itoa n = a := by
  rw [← progNum_eq] at h
  unfold progNum at h
  by_cases h9 : 9 < (trimPrefix a [45]).length
  · rw [if_pos h9] at h; cases h
  rw [if_neg h9] at h
  cases ha : atoi a with
  | none => rw [ha] at h; cases h
  | some m =>
    rw [ha] at h
    by_cases e : itoa m = a
    · have h' : (if itoa m = a then some m else none) = some n := h
      rw [if_pos e] at h'
      cases h'
      refine ⟨?_, e⟩
      have hl : n.natAbs < 10 ^ nDigits n.natAbs := lt_pow_nDigits _
      have hd : nDigits n.natAbs ≤ 9 := by
        rw [← decDigits_length]
        unfold itoa at e
        by_cases hn : n < 0
        · rw [if_pos hn] at e
          rw [← e, trim_minus] at h9
          omega
        · rw [if_neg hn] at e
          have e2 : n.natAbs = n.toNat := by omega
          rw [e2]
          have e3 : trimPrefix a [45] = a := by
            cases a with
            | nil => rfl
            | cons c r =>
              refine trim_other c r ?_
              rintro rfl
              have h1 := dd_val n.toNat
              rw [e] at h1
              cases h1
          rw [e3, ← e] at h9
          omega
      unfold Nine
      have := Nat.pow_le_pow_right (n := 10) (by omega) hd
      omega
    · have h' : (if itoa m = a then some m else none) = some n := h
      rw [if_neg e] at h'; cases h'
theorem le_of_nd : ∀ (k m : Nat), 1 ≤ m → nDigits m = k + 1 → 10 ^ k ≤ m
  | 0, m, h, _ => by simpa using h
  | k + 1, m, h, e => by
    by_cases h10 : m < 10
    · rw [nDigits_small h10] at e; omega
    · rw [nDigits_big h10] at e
      have := le_of_nd k (m / 10) (by omega) (by omega)
      rw [Nat.pow_succ]; omega
theorem nine_numB {n : Int} (h : Nine n) : numB (itoa n) = some n := by
  have hd : ∀ m : Nat, m < 1000000000 → (decDigits m).length ≤ 9 := by
    intro m hm
    rw [decDigits_length]
    rcases Nat.lt_or_ge 9 (nDigits m) with h1 | h1
    · have h2 : ∃ k, nDigits m = k + 1 ∧ 9 ≤ k := ⟨nDigits m - 1, by omega, by omega⟩
      obtain ⟨k, e, hk⟩ := h2
      have h3 : 10 ^ k ≤ m := by
        rcases Nat.eq_zero_or_pos m with h0 | h0
        · subst h0; rw [nDigits_small (by omega)] at e; omega
        · exact le_of_nd k m h0 e
      have := Nat.pow_le_pow_right (n := 10) (by omega) hk
      omega
    · exact h1
  have hnat : ∀ m : Nat, m < 1000000000 → natF (decDigits m) = some m := by
    intro m hm
    rw [natF_eq _ (dd_ne m), if_neg (by have := hd m hm; omega), dd_val]
    show (if decDigits m = decDigits m then some m else none) = _
    rw [if_pos rfl]
  unfold Nine at h
  unfold itoa
  by_cases hn : n < 0
  · rw [if_pos hn]
    show (match natF (decDigits n.natAbs) with | some 0 => none | some m => some (-(m : Int)) | none => none) = _
    rw [hnat _ h]
    cases hk : n.natAbs with
    | zero => omega
    | succ k =>
      show some (-((k + 1 : Nat) : Int)) = _
      congr 1; omega
  · rw [if_neg hn]
    have hnum : numB (decDigits n.toNat) = (natF (decDigits n.toNat)).map fun (m : Nat) => (m : Int) := by
      unfold numB
      split
      · rename_i h9
        have h1 := dd_val n.toNat
        rw [h9] at h1
        cases h1
      · rfl
    rw [hnum, hnat _ (by omega)]
    show some ((n.toNat : Nat) : Int) = _
    congr 1; omega
end Go.Proofs.YthcjogigkagmdaaGreatDoor.Con
