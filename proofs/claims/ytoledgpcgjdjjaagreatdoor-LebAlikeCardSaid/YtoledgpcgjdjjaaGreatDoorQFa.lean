/- Plain: a page's body, its raw bytes, and what is read from raw bytes. -/
import Derived.Test.YtoledgpcgjdjjaaGreatDoorQGNM
import Derived.Test.YtoledgpcgjdjjaaGreatDoorQGCa
import Derived.Test.YtoledgpcgjdjjaaGreatDoorQGNw
import Derived.Lib.BitFns
namespace Go.Proofs.YtoledgpcgjdjjaaGreatDoor
open F
open Go.RowKit Pm Cm
set_option linter.unusedVariables false

def zer : List UInt8 → Nat
  | [] => 0
  | a :: l => Lib.onesCount (255 - a.toNat) + zer l
theorem zer_cons (a : UInt8) (l : List UInt8) : zer (a :: l) = Lib.onesCount (255 - a.toNat) + zer l := by rw [zer]
theorem zer_nil : zer [] = 0 := by rw [zer]
theorem zer_append (l m : List UInt8) : zer (l ++ m) = zer l + zer m := by
  induction l with
  | nil => rw [List.nil_append, zer_nil, Nat.zero_add]
  | cons a l ih => rw [List.cons_append, zer_cons, zer_cons, ih, Nat.add_assoc]
theorem zer_take (l : List UInt8) (i : Nat) (h : i < l.length) : zer (l.take (i + 1)) = zer (l.take i) + Lib.onesCount (255 - (l.getD i 0).toNat) := by
  rw [List.take_add_one, zer_append, List.getD_eq_getElem?_getD, List.getElem?_eq_getElem h]
  simp only [Option.toList_some, zer_cons, zer_nil, Option.getD_some, Nat.add_zero]
theorem ones8' (n : Nat) (h : n < 256) : Lib.onesCount n ≤ 8 := Lib.onesCount_le8 ⟨n, h⟩
theorem ones8 : ∀ n : Fin 256, Lib.onesCount n.val ≤ 8 := Lib.onesCount_le8
theorem zer_le (l : List UInt8) : zer l ≤ 8 * l.length := by
  induction l with
  | nil => rw [zer_nil]; exact Nat.zero_le _
  | cons a l ih =>
    have h8 : Lib.onesCount (255 - a.toNat) ≤ 8 := ones8 ⟨255 - a.toNat, by omega⟩
    rw [zer_cons, List.length_cons]
    omega
noncomputable def decP (t k : Nat) (s : List UInt8) : Option (List UInt8 × Nat) :=
  match decA t k ⟨(s.take k).toArray⟩ ⟨(s.drop k).toArray⟩ with
  | none => none
  | some ps => some ((turns (8 * k + 13 * t) (wordOf t ⟨(s.take k).toArray⟩ ⟨(s.drop k).toArray⟩) ps).take k, ps.length)
noncomputable def decUp (t k : Nat) (P : Nat → List UInt8) : Nat → Option (List UInt8 × Nat)
  | 0 => some ([], 0)
  | i + 1 => match decUp t k P i with
    | none => none
    | some (b, n) => match decP t k (P i) with
      | none => none
      | some (d, m) => some (b ++ d, n + m)
theorem decUp_zero (t k : Nat) (P : Nat → List UInt8) : decUp t k P 0 = some ([], 0) := rfl
theorem decUp_some {t k : Nat} {P : Nat → List UInt8} {i n m : Nat} {b d : List UInt8} (h : decUp t k P i = some (b, n)) (h2 : decP t k (P i) = some (d, m)) : decUp t k P (i + 1) = some (b ++ d, n + m) := by
  show (match decUp t k P i with | none => none | some (b, n) => match decP t k (P i) with | none => none | some (d, m) => some (b ++ d, n + m)) = _
  rw [h]; simp only [h2]
theorem decUp_none {t k : Nat} {P : Nat → List UInt8} {i n : Nat} {b : List UInt8} (h : decUp t k P i = some (b, n)) (h2 : decP t k (P i) = none) : decUp t k P (i + 1) = none := by
  show (match decUp t k P i with | none => none | some (b, n) => match decP t k (P i) with | none => none | some (d, m) => some (b ++ d, n + m)) = _
  rw [h]; simp only [h2]
theorem decUp_stop {t k : Nat} {P : Nat → List UInt8} {i : Nat} (h : decUp t k P i = none) : ∀ c, i ≤ c → decUp t k P c = none
  | 0, hc => by
    obtain rfl : i = 0 := by omega
    exact h
  | c + 1, hc => by
    by_cases e : i = c + 1
    · subst e; exact h
    · show (match decUp t k P c with | none => none | some (b, n) => match decP t k (P c) with | none => none | some (d, m) => some (b ++ d, n + m)) = _
      rw [decUp_stop h c (by omega)]
theorem decP_len {t k n : Nat} {s d : List UInt8} (hs : k ≤ s.length) (h : decP t k s = some (d, n)) : d.length = k := by
  unfold decP at h
  split at h
  · cases h
  · simp only [Option.some.injEq, Prod.mk.injEq] at h
    rw [← h.1, List.length_take, turns_length, wordOf_length]
    have : (⟨(s.take k).toArray⟩ : ByteArray).size = k := by simp [ByteArray.size]; omega
    omega
theorem decUp_len {t k : Nat} {P : Nat → List UInt8} (c : Nat) (hP : ∀ i, i < c → k ≤ (P i).length) : ∀ i, i ≤ c → ∀ b n, decUp t k P i = some (b, n) → b.length = i * k
  | 0, _, b, n, h => by
    simp only [decUp_zero, Option.some.injEq, Prod.mk.injEq] at h
    rw [← h.1]; simp
  | i + 1, hi, b, n, h => by
    cases h1 : decUp t k P i with
    | none => rw [decUp_stop h1 (i + 1) (by omega)] at h; cases h
    | some x =>
      obtain ⟨b1, n1⟩ := x
      cases h2 : decP t k (P i) with
      | none => rw [decUp_none h1 h2] at h; cases h
      | some y =>
        obtain ⟨d, m⟩ := y
        rw [decUp_some h1 h2] at h
        simp only [Option.some.injEq, Prod.mk.injEq] at h
        rw [← h.1, List.length_append, decUp_len c hP i (by omega) b1 n1 h1, decP_len (hP i (by omega)) h2, Nat.succ_mul]
def empUp (t : Nat) (P : Nat → List UInt8) : Nat → Bool
  | 0 => true
  | i + 1 => empUp t P i && decide (zer (P i) ≤ t)
theorem empUp_stop {t : Nat} {P : Nat → List UInt8} {i : Nat} (h : empUp t P i = false) : ∀ c, i ≤ c → empUp t P c = false
  | 0, hc => by
    obtain rfl : i = 0 := by omega
    exact h
  | c + 1, hc => by
    by_cases e : i = c + 1
    · subst e; exact h
    · show (empUp t P c && _) = false
      rw [empUp_stop h c (by omega)]; rfl
theorem empUp_iff {t : Nat} {P : Nat → List UInt8} : ∀ c, empUp t P c = true ↔ ∀ i, i < c → zer (P i) ≤ t
  | 0 => ⟨fun _ i hi => absurd hi (Nat.not_lt_zero i), fun _ => rfl⟩
  | c + 1 => by
    show (empUp t P c && decide (zer (P c) ≤ t)) = true ↔ _
    rw [Bool.and_eq_true, empUp_iff c, decide_eq_true_eq]
    exact ⟨fun ⟨h1, h2⟩ i hi => by
      by_cases e : i = c
      · rw [e]; exact h2
      · exact h1 i (by omega), fun h => ⟨fun i hi => h i (by omega), h c (by omega)⟩⟩
def openL (b : List UInt8) : Option (List UInt8) :=
  if 4 ≤ b.length ∧ b.drop (b.length - 4) = slb (ext 0 (b.take (b.length - 4))) then some (b.take (b.length - 4)) else none
theorem openL_sealed (x : List UInt8) : openL (sealed x) = some x := by
  have hl := sealed_length x
  unfold openL
  have e : (sealed x).length - 4 = x.length := by omega
  rw [e]
  have h1 : (sealed x).take x.length = x := by unfold sealed; rw [List.take_left]
  have h2 : (sealed x).drop x.length = slb (ext 0 x) := by unfold sealed; rw [List.drop_left]
  rw [h1, h2, if_pos ⟨by omega, rfl⟩]
theorem openL_some {b x : List UInt8} (h : openL b = some x) : b = sealed x := by
  unfold openL at h
  split at h
  · rename_i hc
    simp only [Option.some.injEq] at h
    rw [← h]
    unfold sealed
    rw [← hc.2, List.take_append_drop]
  · cases h
theorem openL_none {b : List UInt8} (h : openL b = none) : ∀ x, b ≠ sealed x := fun x e => by rw [e, openL_sealed] at h; cases h
structure Fnd where
  st : Nat
  pl : List UInt8
  tn : Nat
noncomputable def foundL (t k c : Nat) (P : Nat → List UInt8) : Fnd :=
  if empUp t P c then ⟨0, [], 0⟩ else
    match decUp t k P c with
    | none => ⟨2, [], 0⟩
    | some (b, n) =>
      match openL b with
      | none => ⟨2, [], 0⟩
      | some x => if Lib.hasPrefix x [0, 0, 0] then ⟨1, x.drop 3, n⟩ else ⟨2, [], 0⟩
def Fnd.val (f : Fnd) : Value := .agg #[.int .i64 (f.st : Nat), .string ⟨f.pl.toArray⟩, .int .i64 (f.tn : Nat)]
def pieceL (raw : List UInt8) (s i : Nat) : List UInt8 := (raw.drop (i * s)).take s
def chunkL (b : List UInt8) (k i : Nat) : List UInt8 := (b.drop (i * k)).take k
def rawUp (t k : Nat) (b : List UInt8) : Nat → List UInt8
  | 0 => []
  | i + 1 => rawUp t k b i ++ (chunkL b k i ++ parT t (chunkL b k i))
def padL (n : Nat) (l : List UInt8) : List UInt8 := l ++ List.replicate (n - l.length) 0
def bodyL (n : Nat) (l : List UInt8) : List UInt8 := sealed ([0, 0, 0] ++ padL n l)
def pageL (t k c : Nat) (l : List UInt8) : List UInt8 := rawUp t k (bodyL (c * k - 7) l) c
theorem padL_length {n : Nat} {l : List UInt8} (h : l.length ≤ n) : (padL n l).length = n := by unfold padL; rw [List.length_append, List.length_replicate]; omega
theorem bodyL_length {n : Nat} {l : List UInt8} (h : l.length ≤ n) : (bodyL n l).length = n + 7 := by unfold bodyL; rw [sealed_length, List.length_append, padL_length h]; simp; omega
theorem chunkL_length {b : List UInt8} {k i c : Nat} (hb : b.length = c * k) (hi : i < c) : (chunkL b k i).length = k := by
  have h1 : (i + 1) * k ≤ c * k := Nat.mul_le_mul_right k hi
  rw [Nat.succ_mul] at h1
  unfold chunkL
  rw [List.length_take, List.length_drop]; omega
theorem rawUp_length {t k c : Nat} {b : List UInt8} (hb : b.length = c * k) : ∀ i, i ≤ c → (rawUp t k b i).length = i * (k + (13 * t + 7) / 8)
  | 0, _ => by simp [rawUp]
  | i + 1, hi => by
    show (rawUp t k b i ++ (chunkL b k i ++ parT t (chunkL b k i))).length = _
    rw [List.length_append, List.length_append, rawUp_length hb i (by omega), chunkL_length hb (by omega), parT_length, Nat.succ_mul i]
theorem rawUp_piece {t k c : Nat} {b : List UInt8} (hb : b.length = c * k) (j : Nat) : ∀ i, i ≤ c → j < i → pieceL (rawUp t k b i) (k + (13 * t + 7) / 8) j = chunkL b k j ++ parT t (chunkL b k j)
  | 0, _, hj => absurd hj (Nat.not_lt_zero j)
  | i + 1, hi, hj => by
    have hl := rawUp_length (t := t) hb i (by omega)
    show ((rawUp t k b i ++ (chunkL b k i ++ parT t (chunkL b k i))).drop (j * (k + (13 * t + 7) / 8))).take (k + (13 * t + 7) / 8) = _
    by_cases e : j = i
    · subst e
      rw [← hl, List.drop_left, List.take_of_length_le]
      rw [List.length_append, chunkL_length hb (by omega), parT_length]; omega
    · have h1 : (j + 1) * (k + (13 * t + 7) / 8) ≤ i * (k + (13 * t + 7) / 8) := Nat.mul_le_mul_right _ (by omega)
      rw [Nat.succ_mul j] at h1
      rw [List.drop_append_of_le_length (by omega), List.take_append_of_le_length (by rw [List.length_drop]; omega)]
      exact rawUp_piece hb j i (by omega) (by omega)
theorem pageL_length {t k c : Nat} {l : List UInt8} (h7 : 7 ≤ c * k) (h : l.length ≤ c * k - 7) : (pageL t k c l).length = c * (k + (13 * t + 7) / 8) := by
  unfold pageL
  exact rawUp_length (c := c) (by rw [bodyL_length h]; omega) c (Nat.le_refl _)
theorem chunks_take (b : List UInt8) (k : Nat) : ∀ i, b.take (i * k) ++ chunkL b k i = b.take ((i + 1) * k) := fun i => by
  unfold chunkL
  rw [Nat.succ_mul i, List.take_add]
def Turned (t : Nat) (s l : List UInt8) (n : Nat) : Prop :=
  ∃ qs : List Nat, qs.Nodup ∧ (∀ q ∈ qs, q < 8 * l.length + 13 * t) ∧ qs.length = n ∧ n ≤ t ∧ s.length = l.length + (13 * t + 7) / 8 ∧ wordOf t ⟨(s.take l.length).toArray⟩ ⟨(s.drop l.length).toArray⟩ = flips (l ++ parT t l) qs
theorem decP_turned {t n : Nat} (h1 : 1 ≤ t) (h8 : t ≤ 8) {s l : List UInt8} (hl : l.length ≤ 256) (h : Turned t s l n) : decP t l.length s = some (l, n) := by
  obtain ⟨qs, hn, hq, hqn, hnt, hs, hw⟩ := h
  have hd : (⟨(s.take l.length).toArray⟩ : ByteArray).size = l.length := by simp [ByteArray.size]; omega
  have hp : (⟨(s.drop l.length).toArray⟩ : ByteArray).size = (13 * t + 7) / 8 := by simp [ByteArray.size]; omega
  obtain ⟨hg, ht⟩ := good_flips t h1 h8 l hl qs hn hq _ _ hd hp hw (by omega)
  unfold decP
  rw [decA_of (by omega) hg]
  simp only [ht, List.take_left, expo_length hn hq, hqn]
theorem turned_none {t : Nat} (h1 : 1 ≤ t) (h8 : t ≤ 8) (l : List UInt8) : Turned t (l ++ parT t l) l 0 := by
  refine ⟨[], List.nodup_nil, (fun q h => by cases h), rfl, Nat.zero_le _, by rw [List.length_append, parT_length], ?_⟩
  rw [List.take_left, List.drop_left]
  exact word_spared t h1 h8 ⟨l.toArray⟩ ⟨(parT t l).toArray⟩ (by simp [ByteArray.size, parT_length]) (fun j _ => rfl)
theorem decUp_turned {t k c : Nat} (h1 : 1 ≤ t) (h8 : t ≤ 8) (hk : k ≤ 256) {b : List UInt8} (hb : b.length = c * k) {P : Nat → List UInt8} {N : Nat → Nat} (hP : ∀ i, i < c → Turned t (P i) (chunkL b k i) (N i)) :
    ∀ i, i ≤ c → decUp t k P i = some (b.take (i * k), ((List.range i).map N).sum)
  | 0, _ => by simp [decUp_zero]
  | i + 1, hi => by
    have hl := chunkL_length hb (show i < c by omega)
    have h := decP_turned h1 h8 (by omega) (hP i (by omega))
    rw [hl] at h
    rw [decUp_some (decUp_turned h1 h8 hk hb hP i (by omega)) h, chunks_take, List.range_succ, List.map_append, List.sum_append]
    simp
theorem hasPrefix3 (l : List UInt8) : Lib.hasPrefix ([0, 0, 0] ++ l) [0, 0, 0] = true := by
  show List.isPrefixOf [0, 0, 0] ([0, 0, 0] ++ l) = true
  exact List.isPrefixOf_iff_prefix.2 (List.prefix_append _ _)
theorem found_turned {t k c : Nat} (h1 : 1 ≤ t) (h8 : t ≤ 8) (hk : k ≤ 256) {l : List UInt8} (h7 : 7 ≤ c * k) (hl : l.length ≤ c * k - 7) {P : Nat → List UInt8} {N : Nat → Nat} (hP : ∀ i, i < c → Turned t (P i) (chunkL (bodyL (c * k - 7) l) k i) (N i)) (he : empUp t P c = false) :
    foundL t k c P = ⟨1, padL (c * k - 7) l, ((List.range c).map N).sum⟩ := by
  have hb : (bodyL (c * k - 7) l).length = c * k := by rw [bodyL_length hl]; omega
  have hd := decUp_turned h1 h8 hk hb hP c (Nat.le_refl _)
  rw [List.take_of_length_le (Nat.le_of_eq hb)] at hd
  unfold foundL
  rw [if_neg (by rw [he]; exact Bool.false_ne_true), hd]
  unfold bodyL
  simp only [openL_sealed, hasPrefix3, if_true]
  rfl
end Go.Proofs.YtoledgpcgjdjjaaGreatDoor
