/- OpsFile, plain: a file's bytes and its pieces. -/
import Derived.Test.YtcfilepilgjlaaaDoorEr
import Derived.Test.YtcfilepilgjlaaaDoorEn
import Derived.Test.YtcfilepilgjlaaaDoorEp
namespace Go.Proofs.YtcfilepilgjlaaaDoor
open Go.RowKit

structure FInv (φ : Nat → UInt8) (n : Nat) (f : Nat → ByteArray) : Prop where
  zero : ∀ x, n ≤ x → φ x = 0
  le : n ≤ 2256
  at' : ∀ x, x < 12800 → (f (x / 64)).data.toList.getD (x % 64) 0 = φ x
  fit : ∀ j, (f j).size ≤ 64
def putA (f : Nat → ByteArray) (c : Int × List UInt8) : Nat → ByteArray := fun j => if (j : Int) = c.1 then ⟨c.2.toArray⟩ else f j
def putAL (f : Nat → ByteArray) (L : List (Int × List UInt8)) : Nat → ByteArray := L.foldl putA f
theorem putAL_snoc (f : Nat → ByteArray) (L : List (Int × List UInt8)) (c : Int × List UInt8) : putAL f (L ++ [c]) = putA (putAL f L) c := by unfold putAL; rw [List.foldl_append]; rfl
theorem putAL_app (f : Nat → ByteArray) (L K : List (Int × List UInt8)) : putAL f (L ++ K) = putAL (putAL f L) K := by unfold putAL; rw [List.foldl_append]
theorem putAL_dif (F : Nat) (f : Nat → ByteArray) (f1 f2 : Nat → UInt8) : ∀ m j, putAL f (difL (F : Int) f1 f2 m) j = if F ≤ j ∧ j < F + m ∧ same64 f2 f1 ((j - F) * 64) ((j - F) * 64) 64 = false then ⟨(tx f2 ((j - F) * 64)).toArray⟩ else f j
  | 0, j => by rw [if_neg (fun h => by omega)]; rfl
  | m + 1, j => by
    rcases hb : same64 f2 f1 (m * 64) (m * 64) 64 with _ | _
    · rw [difL_other (F : Int) f1 f2 m hb, putAL_snoc]
      unfold putA
      by_cases e : j = F + m
      · subst e
        rw [if_pos (by show ((F + m : Nat) : Int) = (F : Int) + (m : Int); omega)]
        have e2 : F + m - F = m := by omega
        rw [e2, if_pos ⟨by omega, by omega, hb⟩]
      · rw [if_neg (by show ¬ (j : Int) = (F : Int) + (m : Int); omega), putAL_dif F f f1 f2 m j]
        by_cases h2 : F ≤ j ∧ j < F + m
        · simp only [h2.1, h2.2, show j < F + (m + 1) by omega, true_and]
        · rw [if_neg (fun h => h2 ⟨h.1, h.2.1⟩), if_neg (fun h => by omega)]
    · rw [difL_same (F : Int) f1 f2 m hb, putAL_dif F f f1 f2 m j]
      by_cases e : j = F + m
      · subst e
        have e2 : F + m - F = m := by omega
        rw [if_neg (fun h => by omega), if_neg (fun h => by rw [e2, hb] at h; exact absurd h.2.2 (by decide))]
      · by_cases h2 : F ≤ j ∧ j < F + m
        · simp only [h2.1, h2.2, show j < F + (m + 1) by omega, true_and]
        · rw [if_neg (fun h => h2 ⟨h.1, h.2.1⟩), if_neg (fun h => by omega)]
theorem putAL_fit : ∀ (L : List (Int × List UInt8)) (f : Nat → ByteArray), (∀ j, (f j).size ≤ 64) → (∀ c ∈ L, c.2.length ≤ 64) → ∀ j, (putAL f L j).size ≤ 64
  | [], f, hf, _, j => hf j
  | c :: L, f, hf, h, j => by
    show (putAL (putA f c) L j).size ≤ 64
    refine putAL_fit L _ (fun i => ?_) (fun c hc => h c (List.mem_cons_of_mem _ hc)) j
    unfold putA
    split
    · exact h c (List.mem_cons_self)
    · exact hf i
theorem difL_mem (F : Int) (f1 f2 : Nat → UInt8) (m : Nat) : ∀ c ∈ difL F f1 f2 m, F ≤ c.1 ∧ c.1 < F + (m : Int) ∧ c.2.length ≤ 64 := fun c hc => by
  obtain ⟨p, hp, rfl⟩ := List.mem_map.1 (show c ∈ List.map _ _ from hc)
  have hp2 := List.mem_range.1 (List.mem_filter.1 hp).1
  exact ⟨by show F ≤ F + (p : Int); omega, by show F + (p : Int) < _; omega, tx_len _ _⟩
theorem spF_file {φ : Nat → UInt8} {n : Nat} {f : Nat → ByteArray} (h : FInv φ n f) (F m y : Nat) (hy : y < m * 64) (hx : F * 64 + y < 12800) : spF (strsAt f F m) y = φ (F * 64 + y) := by
  rw [spF_strs f F m y hy, ← h.at' _ hx, show (F * 64 + y) / 64 = F + y / 64 by omega, show (F * 64 + y) % 64 = y % 64 by omega]
/-- behind a write -/
theorem inv_write {φ : Nat → UInt8} {n : Nat} {f : Nat → ByteArray} (h : FInv φ n f) (o F r M : Nat) (d : List UInt8) (ho : o ≤ 2000) (hd : d.length ≤ 256) (hF : o = F * 64 + r) (hr : r < 64) (hM : r + d.length ≤ M * 64) (hM2 : M ≤ 6) :
    FInv (laid φ o d d.length) (max n (o + d.length)) (putAL f (difL (F : Int) (spF (strsAt f F M)) (laid (spF (strsAt f F M)) r d d.length) M)) := by
  have hl := h.le
  have hlaid : ∀ y, y < M * 64 → laid (spF (strsAt f F M)) r d d.length y = laid φ o d d.length (F * 64 + y) := fun y hy => by
    unfold laid
    rw [spF_file h F M y hy (by omega)]
    by_cases c : r ≤ y ∧ y < r + d.length
    · rw [if_pos c, if_pos (by omega), show F * 64 + y - o = y - r by omega]
    · rw [if_neg c, if_neg (by omega)]
  refine ⟨fun x hx => ?_, by omega, fun x hx => ?_, putAL_fit _ f h.fit (fun c hc => (difL_mem _ _ _ _ c hc).2.2)⟩
  · unfold laid
    rw [if_neg (by omega)]
    exact h.zero x (by omega)
  · rw [putAL_dif]
    by_cases c1 : F ≤ x / 64 ∧ x / 64 < F + M
    · have e : (x / 64 - F) * 64 + x % 64 < M * 64 := by omega
      have e2 : F * 64 + ((x / 64 - F) * 64 + x % 64) = x := by omega
      have hb := hlaid _ e
      rw [e2] at hb
      by_cases c2 : same64 (laid (spF (strsAt f F M)) r d d.length) (spF (strsAt f F M)) ((x / 64 - F) * 64) ((x / 64 - F) * 64) 64 = false
      · rw [if_pos ⟨c1.1, c1.2, c2⟩]
        show (tx _ _).getD (x % 64) 0 = _
        rw [tx_get _ _ _ (by omega)]
        exact hb
      · rw [if_neg (fun h => c2 h.2.2)]
        have c3 : same64 (laid (spF (strsAt f F M)) r d d.length) (spF (strsAt f F M)) ((x / 64 - F) * 64) ((x / 64 - F) * 64) 64 = true := by simpa using c2
        have := same64_iff.1 c3 (x % 64) (by omega)
        rw [hb, spF_file h F M _ e (by omega), e2] at this
        rw [h.at' x hx, this]
    · rw [if_neg (fun h => c1 ⟨h.1, h.2.1⟩), h.at' x hx]
      unfold laid
      rw [if_neg (by omega)]
theorem putAL_ctB (g : Nat → ByteArray) (x : Int) (P : Nat) (hP : pcs x = (P : Int)) : ∀ k j, putAL g (ctB x k) j = if P ≤ j ∧ j < P + k then ⟨#[]⟩ else g j
  | 0, j => by rw [if_neg (fun h => by omega)]; rfl
  | k + 1, j => by
    rw [ctB_snoc, putAL_snoc]
    unfold putA
    rw [putAL_ctB g x P hP k j]
    by_cases e : j = P + k
    · subst e
      rw [if_pos (by show ((P + k : Nat) : Int) = pcs x + (k : Int); omega), if_pos (by omega)]
    · rw [if_neg (by show ¬ (j : Int) = pcs x + (k : Int); omega)]
      by_cases h2 : P ≤ j ∧ j < P + k
      · rw [if_pos h2, if_pos (by omega)]
      · rw [if_neg h2, if_neg (by omega)]
theorem ct_mem (x : Int) (q : ByteArray) (k : Nat) (h0 : 0 ≤ x) (h1 : x ≤ 8192) (hk : k ≤ 100) : ∀ c ∈ ctA x q ++ ctB x k, 0 ≤ c.1 ∧ c.1 < 10000 ∧ c.2.length ≤ 64 := fun c hc => by
  have hp := pcs_eq x
  rcases List.mem_append.1 hc with h | h
  · unfold ctA at h
    split at h
    · obtain ⟨a, b, d⟩ := difL_mem _ _ _ _ c h
      exact ⟨by omega, by omega, d⟩
    · cases h
  · obtain ⟨i, hi, rfl⟩ := List.mem_map.1 h
    have := List.mem_range.1 hi
    exact ⟨by show 0 ≤ pcs x + (i : Int); omega, by show pcs x + (i : Int) < _; omega, by simp⟩
/-- behind a cut -/
theorem inv_cut {φ : Nat → UInt8} {n : Nat} {f : Nat → ByteArray} (h : FInv φ n f) (o : Nat) (ho : o < n) :
    FInv (fun x => if x < o then φ x else 0) o (putAL f (ctA (o : Int) (f (o / 64)) ++ ctB (o : Int) (pcs (n : Int) - pcs (o : Int)).toNat)) := by
  have hl := h.le
  have hp1 := pcs_eq (o : Int)
  have hp2 := pcs_eq (n : Int)
  obtain ⟨P, hP⟩ : ∃ P : Nat, pcs (o : Int) = (P : Int) := ⟨(pcs (o : Int)).toNat, by omega⟩
  obtain ⟨k, hk⟩ : ∃ k, (pcs (n : Int) - pcs (o : Int)).toNat = k := ⟨_, rfl⟩
  rw [hk]
  refine ⟨fun x hx => if_neg (by omega), by omega, fun x hx => ?_, putAL_fit _ f h.fit (fun c hc => (ct_mem (o : Int) _ k (by omega) (by omega) (by omega) c hc).2.2)⟩
  rw [putAL_app, putAL_ctB _ _ P hP]
  show _ = if x < o then φ x else 0
  by_cases c1 : P ≤ x / 64 ∧ x / 64 < P + k
  · rw [if_pos c1, if_neg (by omega)]; rfl
  · rw [if_neg c1]
    unfold ctA
    by_cases c2 : 0 < (o : Int) % 64
    · rw [if_pos c2, show ((o : Int) / 64) = ((o / 64 : Nat) : Int) by omega, putAL_dif]
      have hz : ∀ y, y < 64 → spF [f (o / 64)] y = φ (o / 64 * 64 + y) := fun y hy => by
        rw [← h.at' _ (by omega), show (o / 64 * 64 + y) / 64 = o / 64 by omega, show (o / 64 * 64 + y) % 64 = y by omega]
        unfold spF
        rw [show y / 64 = 0 by omega, show y % 64 = y by omega]; rfl
      have hc : ∀ y, y < 64 → ctF (o : Int) (f (o / 64)) y = if o / 64 * 64 + y < o then φ (o / 64 * 64 + y) else 0 := fun y hy => by
        unfold ctF
        by_cases c : ((o : Int) % 64).toNat ≤ y
        · rw [if_pos ⟨c, by omega⟩, if_neg (by omega)]
        · rw [if_neg (fun h => c h.1), if_pos (by omega), hz y hy]
      by_cases c3 : x / 64 = o / 64
      · have e2 : o / 64 * 64 + x % 64 = x := by omega
        have hcx := hc (x % 64) (by omega)
        rw [e2] at hcx
        have e0 : x / 64 - o / 64 = 0 := by omega
        rw [e0, Nat.zero_mul]
        by_cases c4 : same64 (ctF (o : Int) (f (o / 64))) (spF [f (o / 64)]) 0 0 64 = false
        · rw [if_pos ⟨by omega, by omega, c4⟩]
          show (tx _ _).getD (x % 64) 0 = _
          rw [tx_get _ _ _ (by omega), Nat.zero_add, hcx]
        · rw [if_neg (fun h => c4 h.2.2)]
          have c5 : same64 (ctF (o : Int) (f (o / 64))) (spF [f (o / 64)]) 0 0 64 = true := by simpa using c4
          have := same64_iff.1 c5 (x % 64) (by omega)
          rw [Nat.zero_add, hcx, hz _ (by omega), e2] at this
          rw [h.at' x hx, this]
      · rw [if_neg (fun h => c3 (by omega)), h.at' x hx]
        by_cases c4 : x < o
        · rw [if_pos c4]
        · rw [if_neg c4]; exact h.zero x (by omega)
    · rw [if_neg c2]
      show (f (x / 64)).data.toList.getD (x % 64) 0 = _
      rw [h.at' x hx]
      by_cases c4 : x < o
      · rw [if_pos c4]
      · rw [if_neg c4]; exact h.zero x (by omega)
/-- what is read is what stands there -/
theorem inv_read {φ : Nat → UInt8} {n : Nat} {f : Nat → ByteArray} (h : FInv φ n f) (o : Nat) (ho : o ≤ 2000) :
    rdL (n : Int) (o : Int) 90 (strsAt f (o / 64) (pcs ((o : Int) + 90) - ((o / 64 : Nat) : Int)).toNat) = if o < n then bytesAt φ o (min n (o + 90) - o) else [] := by
  have hl := h.le
  have hp := pcs_eq ((o : Int) + 90)
  unfold rdL
  by_cases c : o < n
  · rw [if_pos ⟨by omega, by omega, by decide⟩, if_pos c]
    apply List.ext_getElem
    · rw [bytesAt_length, bytesAt_length]; omega
    · intro i h1 h2
      rw [bytesAt_length] at h1
      rw [bytesAt_get, bytesAt_get, spF_file h _ _ _ (by omega) (by omega)]
      congr 1; omega
  · rw [if_neg (fun h => c (by omega)), if_neg c]
end Go.Proofs.YtcfilepilgjlaaaDoor
