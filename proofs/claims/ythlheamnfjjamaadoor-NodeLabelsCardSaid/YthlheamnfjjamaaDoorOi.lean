/- A node's bytes anywhere in a text are decoded to it. -/
import Derived.Test.YthlheamnfjjamaaDoorOe
import Derived.Test.YthlheamnfjjamaaDoorOf
import Derived.Test.YthlheamnfjjamaaDoorOg
import Derived.Test.YthlheamnfjjamaaDoorOh
namespace Go.Proofs.YthlheamnfjjamaaDoor
open Go.RowKit Cm

theorem beZ_snoc : ∀ (k : Nat) (n : Int), beZ (k + 1) n = beZ k (n / 256) ++ [UInt8.ofNat (n % 256).toNat]
  | 0, n => by simp [beZ]
  | k + 1, n => by
    rw [beZ, beZ_snoc k n, beZ, List.cons_append]
    have e : n / 2 ^ (8 * (k + 1)) = n / 256 / 2 ^ (8 * k) := by
      rw [show (8 * (k + 1)) = 8 + 8 * k by omega, Int.pow_add, Int.ediv_ediv_of_nonneg (by decide)]
      rfl
    rw [e]
theorem valN_beZ : ∀ (k n : Nat), n < 256 ^ k → valN (beZ k (n : Int)) = n
  | 0, n, h => by
    have : n = 0 := by simpa using h
    subst this; rfl
  | k + 1, n, h => by
    have hd : n / 256 < 256 ^ k := by rw [Nat.pow_succ] at h; exact Nat.div_lt_of_lt_mul (by rw [Nat.mul_comm]; exact h)
    rw [beZ_snoc, valN_snoc]
    have ih := valN_beZ k (n / 256) hd
    have e1 : ((n : Int) / 256) = ((n / 256 : Nat) : Int) := rfl
    have e2 : ((n : Int) % 256).toNat = n % 256 := rfl
    rw [e1, ih, e2]
    have := u8_ofNat' (n % 256)
    omega
attribute [local irreducible] beZ valN
theorem goodN_parts {seq : Int} {gone : Bool} {k v : List UInt8} (h : goodN seq gone k v = true) : (0 ≤ seq ∧ seq ≤ 1099511627776) ∧ 1 ≤ k.length ∧ k.length ≤ 64 ∧ v.length ≤ 200 := by
  simp only [goodN, Bool.and_eq_true, decide_eq_true_eq, okN_iff] at h
  exact ⟨h.1.1.1.1, h.1.1.1.2, h.1.1.2, h.1.2⟩
/-- what stands where in a node's bytes, whatever follows -/
theorem raw_shape (seq : Int) (gone last : Bool) (k v x : List UInt8) : rawN seq gone last k v ++ x = 78 :: (beZ 1 (flagN gone last) ++ (beZ 8 seq ++ (beZ 1 (k.length : Int) ++ (beZ 2 (v.length : Int) ++ (k ++ (v ++ x)))))) := by
  unfold rawN; simp [List.append_assoc]
theorem raw_length (seq : Int) (gone last : Bool) (k v : List UInt8) : (rawN seq gone last k v).length = 13 + k.length + v.length := by
  unfold rawN; simp only [List.length_append, beZ_length, List.length_singleton]
theorem drop_mid (a b c : List UInt8) (n : Nat) (h : a.length = n) : (a ++ (b ++ c)).drop n = b ++ c := List.drop_left' h
section
variable (seq : Int) (gone last : Bool) (k v x : List UInt8)
theorem raw_klen (hk : k.length ≤ 64) : klenL (rawN seq gone last k v ++ x) = k.length := by
  unfold klenL
  rw [raw_shape]
  have e : (78 :: (beZ 1 (flagN gone last) ++ (beZ 8 seq ++ (beZ 1 (k.length : Int) ++ (beZ 2 (v.length : Int) ++ (k ++ (v ++ x))))))) = (78 :: (beZ 1 (flagN gone last) ++ beZ 8 seq)) ++ (beZ 1 (k.length : Int) ++ (beZ 2 (v.length : Int) ++ (k ++ (v ++ x)))) := by simp
  rw [e, List.drop_left' (by simp [beZ_length]), List.take_left' (beZ_length _ _), valN_beZ 1 _ (by omega)]
theorem raw_vlen (hv : v.length ≤ 200) : vlenL (rawN seq gone last k v ++ x) = v.length := by
  unfold vlenL
  rw [raw_shape]
  have e : (78 :: (beZ 1 (flagN gone last) ++ (beZ 8 seq ++ (beZ 1 (k.length : Int) ++ (beZ 2 (v.length : Int) ++ (k ++ (v ++ x))))))) = (78 :: (beZ 1 (flagN gone last) ++ (beZ 8 seq ++ beZ 1 (k.length : Int)))) ++ (beZ 2 (v.length : Int) ++ (k ++ (v ++ x))) := by simp
  rw [e, List.drop_left' (by simp [beZ_length]), List.take_left' (beZ_length _ _), valN_beZ 2 _ (by omega)]
theorem raw_seq (h0 : 0 ≤ seq) (h1 : seq ≤ 1099511627776) : seqL (rawN seq gone last k v) = seq := by
  unfold seqL
  have e0 := raw_shape seq gone last k v []
  rw [List.append_nil] at e0
  rw [e0]
  have e : (78 :: (beZ 1 (flagN gone last) ++ (beZ 8 seq ++ (beZ 1 (k.length : Int) ++ (beZ 2 (v.length : Int) ++ (k ++ (v ++ []))))))) = (78 :: beZ 1 (flagN gone last)) ++ (beZ 8 seq ++ (beZ 1 (k.length : Int) ++ (beZ 2 (v.length : Int) ++ (k ++ (v ++ []))))) := by simp
  obtain ⟨m, rfl⟩ : ∃ m : Nat, seq = (m : Int) := ⟨seq.toNat, by omega⟩
  rw [e, List.drop_left' (by simp [beZ_length]), List.take_left' (beZ_length _ _), valN_beZ 8 m (by omega), w64_nat m (by omega)]
theorem raw_key (hk : k.length ≤ 64) : keyL (rawN seq gone last k v) = k ∧ valL (rawN seq gone last k v) = v := by
  have hkl := raw_klen seq gone last k v [] hk
  rw [List.append_nil] at hkl
  unfold keyL valL
  rw [hkl]
  have e0 := raw_shape seq gone last k v []
  rw [List.append_nil] at e0
  rw [e0]
  have e : (78 :: (beZ 1 (flagN gone last) ++ (beZ 8 seq ++ (beZ 1 (k.length : Int) ++ (beZ 2 (v.length : Int) ++ (k ++ (v ++ []))))))) = (78 :: (beZ 1 (flagN gone last) ++ (beZ 8 seq ++ (beZ 1 (k.length : Int) ++ beZ 2 (v.length : Int))))) ++ (k ++ v) := by simp
  have hl : (78 :: (beZ 1 (flagN gone last) ++ (beZ 8 seq ++ (beZ 1 (k.length : Int) ++ beZ 2 (v.length : Int))))).length = 13 := by simp [beZ_length]
  rw [e, List.drop_left' hl, ← List.drop_drop, List.drop_left' hl]
  exact ⟨List.take_left, List.drop_left⟩
theorem beZ_flag : (beZ 1 (flagN gone last)) = [UInt8.ofNat (flagN gone last).toNat] := by
  rw [beZ_snoc]
  unfold beZ
  rcases gone with _ | _ <;> rcases last with _ | _ <;> rfl
theorem raw_flags : flagL (rawN seq gone last k v) = (flagN gone last).toNat ∧ goneL (rawN seq gone last k v) = gone ∧ lastL (rawN seq gone last k v) = last := by
  have e0 := raw_shape seq gone last k v []
  rw [List.append_nil, beZ_flag] at e0
  have h : flagL (rawN seq gone last k v) = (flagN gone last).toNat := by
    unfold flagL
    rw [e0]
    rcases gone with _ | _ <;> rcases last with _ | _ <;> rfl
  refine ⟨h, ?_, ?_⟩
  · unfold goneL; rw [h]; rcases gone with _ | _ <;> rcases last with _ | _ <;> rfl
  · unfold lastL; rw [h]; rcases gone with _ | _ <;> rcases last with _ | _ <;> rfl
theorem raw_parse (hg : goodN seq gone k v = true) : parseOk (rawN seq gone last k v) = true ∧ parseV (rawN seq gone last k v) = nodeV seq gone last k v := by
  obtain ⟨⟨h0, h1⟩, h2, h3, h4⟩ := goodN_parts hg
  obtain ⟨e1, e2, e3⟩ := raw_flags seq gone last k v
  obtain ⟨e4, e5⟩ := raw_key seq gone last k v h3
  have e6 := raw_seq seq gone last k v h0 h1
  have hok : parseOk (rawN seq gone last k v) = true := by
    unfold parseOk
    rw [e1, e2, e4, e5, e6, hg]
    rcases gone with _ | _ <;> rcases last with _ | _ <;> rfl
  refine ⟨hok, ?_⟩
  unfold parseV
  rw [if_pos hok, e2, e3, e4, e5, e6]
end
end Go.Proofs.YthlheamnfjjamaaDoor
