/- Packed nodes come out again, plain. -/
import Derived.Test.YthlheamnfjjamaaDoorUf
namespace Go.Proofs.YthlheamnfjjamaaDoor
open Go.RowKit Cm
attribute [local irreducible] beZ valN Cm.shs Cm.nxt Cm.reg Cm.ext
set_option linter.unusedVariables false

theorem decR_enc (x : List UInt8) (seq : Int) (g la : Bool) (k v : List UInt8) (hg : goodN seq g k v = true) :
    decR (sealed (rawN seq g la k v) ++ x) = (nodeV seq g la k v, (sealed (rawN seq g la k v)).length, 0) := by
  obtain ⟨_, h2, h3, h4⟩ := goodN_parts hg
  have hrl := raw_length seq g la k v
  have hsl := sealed_length (rawN seq g la k v)
  have hR : sealed (rawN seq g la k v) ++ x = rawN seq g la k v ++ (slb (ext 0 (rawN seq g la k v)) ++ x) := by
    show (rawN seq g la k v ++ slb (ext 0 (rawN seq g la k v))) ++ x = _
    rw [List.append_assoc]
  have hkl := raw_klen seq g la k v (slb (ext 0 (rawN seq g la k v)) ++ x) h3
  have hvl := raw_vlen seq g la k v (slb (ext 0 (rawN seq g la k v)) ++ x) h4
  obtain ⟨hpo, hpv⟩ := raw_parse seq g la k v hg
  obtain ⟨r, hr⟩ : ∃ r, rawN seq g la k v ++ (slb (ext 0 (rawN seq g la k v)) ++ x) = 78 :: r := ⟨_, raw_shape seq g la k v _⟩
  have ht1 : (sealed (rawN seq g la k v) ++ x).take (13 + k.length + v.length) = rawN seq g la k v := by rw [hR]; exact List.take_left' hrl
  have ht2 : (sealed (rawN seq g la k v) ++ x).take (17 + k.length + v.length) = sealed (rawN seq g la k v) := List.take_left' (by omega)
  have hl : (sealed (rawN seq g la k v) ++ x).length = (sealed (rawN seq g la k v)).length + x.length := List.length_append
  rw [← hR] at hkl hvl hr
  have hd : (sealed (rawN seq g la k v) ++ x).getD 0 0 = 78 := by rw [hr]; rfl
  have hne : sealed (rawN seq g la k v) ++ x ≠ [] := by rw [hr]; exact List.cons_ne_nil _ _
  unfold decR
  rw [hkl, hvl, ht1, ht2, hd, hpo, hpv]
  rw [if_neg (by rintro (h | h); exact hne h; exact absurd h (by decide)), if_neg (by simp), if_neg (by omega), if_neg (by omega), if_neg (by simp), if_pos rfl]
  rw [show 17 + k.length + v.length = (sealed (rawN seq g la k v)).length by omega]
theorem decP_enc (p x : List UInt8) (seq : Int) (g la : Bool) (k v : List UInt8) (hg : goodN seq g k v = true) :
    decP (p ++ (sealed (rawN seq g la k v) ++ x)) (p.length : Int) = (nodeV seq g la k v, (p.length : Int) + ((sealed (rawN seq g la k v)).length : Int), 0) := by
  have h := decR_enc x seq g la k v hg
  unfold decP
  rw [if_neg (by rw [List.length_append]; omega), Int.toNat_natCast, List.drop_left, h, if_pos rfl]
theorem decP_end (p : List UInt8) : decP p (p.length : Int) = (zeroV, 0, 3) := by
  unfold decP
  rw [if_neg (by omega), Int.toNat_natCast, List.drop_length]
  have : decR [] = (zeroV, 0, 3) := by unfold decR; rw [if_pos (.inl rfl)]
  rw [this]; rfl
attribute [local irreducible] goodN
def encV (n : Nat) (k : List UInt8) : List UInt8 := sealed (rawN (n : Int) false false k [])
def rowV : Nat → List (List UInt8) → List UInt8
  | _, [] => []
  | n, k :: r => encV n k ++ rowV (n + 1) r
def nodesV : Nat → List (List UInt8) → List Value
  | _, [] => []
  | n, k :: r => nodeV (n : Int) false false k [] :: nodesV (n + 1) r
def goodV : Nat → List (List UInt8) → Prop
  | _, [] => True
  | n, k :: r => goodN (n : Int) false k [] = true ∧ goodV (n + 1) r
theorem rowV_snoc : ∀ (n : Nat) (F : List (List UInt8)) (k : List UInt8), rowV n (F ++ [k]) = rowV n F ++ encV (n + F.length) k
  | n, [], k => by simp [rowV]
  | n, a :: F, k => by
    rw [List.cons_append, rowV, rowV, rowV_snoc (n + 1) F k, List.append_assoc, List.length_cons, show n + 1 + F.length = n + (F.length + 1) by omega]
theorem goodV_snoc (k : List UInt8) : ∀ (F : List (List UInt8)) (n : Nat), goodV n F → goodN ((n + F.length : Nat) : Int) false k [] = true → goodV n (F ++ [k])
  | [], n, _, h => by
    rw [List.length_nil, Nat.add_zero] at h
    rw [List.nil_append, goodV]
    exact ⟨h, trivial⟩
  | a :: F, n, h, h' => by
    rw [List.cons_append, goodV]
    rw [goodV] at h
    refine ⟨h.1, goodV_snoc k F (n + 1) h.2 ?_⟩
    have e : n + 1 + F.length = n + (a :: F).length := by rw [List.length_cons]; omega
    rw [e]; exact h'
theorem nodesV_length : ∀ (n : Nat) (F : List (List UInt8)), (nodesV n F).length = F.length
  | _, [] => rfl
  | n, k :: r => by rw [nodesV, List.length_cons, nodesV_length (n + 1) r, List.length_cons]
theorem nodesV_form : ∀ (n : Nat) (F : List (List UInt8)), ∀ v ∈ nodesV n F, formN v
  | _, [], v, h => absurd h List.not_mem_nil
  | n, k :: r, v, h => by
    rw [nodesV, List.mem_cons] at h
    rcases h with rfl | h
    · exact ⟨_, _, _, _, _, rfl⟩
    · exact nodesV_form (n + 1) r v h
theorem nodesV_at : ∀ (n : Nat) (F : List (List UInt8)) (i : Nat), i < F.length → ∃ (g b : Bool) (qk qv : ByteArray), (nodesV n F)[i]? = some (.agg #[.int .i64 ((n + i : Nat) : Int), .bool g, .bool b, .string qk, .string qv])
  | _, [], i, h => absurd h (Nat.not_lt_zero _)
  | n, k :: r, 0, h => ⟨_, _, _, _, rfl⟩
  | n, k :: r, i + 1, h => by
    obtain ⟨g, b, qk, qv, e⟩ := nodesV_at (n + 1) r i (by simpa using h)
    refine ⟨g, b, qk, qv, ?_⟩
    rw [nodesV, List.getElem?_cons_succ, e, show n + 1 + i = n + (i + 1) by omega]
theorem unpW_row : ∀ (F : List (List UInt8)) (st f : Nat) (p : List UInt8) (N : List Value) (A : List Int), goodV st F → F.length < f →
    (unpW (p ++ rowV st F) f (p.length : Int) N A).1 = N ++ nodesV st F ∧ (unpW (p ++ rowV st F) f (p.length : Int) N A).2.2 = 0
  | [], st, f + 1, p, N, A, _, _ => by
    rw [rowV, List.append_nil, unpW, decP_end, if_neg (by decide), if_pos rfl, nodesV, List.append_nil]
    exact ⟨rfl, rfl⟩
  | k :: r, st, f + 1, p, N, A, h, hf => by
    rw [rowV, unpW]
    have hd : decP (p ++ (encV st k ++ rowV (st + 1) r)) (p.length : Int) = _ := decP_enc p (rowV (st + 1) r) (st : Int) false false k [] h.1
    rw [hd, if_pos rfl]
    have ih := unpW_row r (st + 1) f (p ++ encV st k) (N ++ [nodeV (st : Int) false false k []]) (A ++ [(p.length : Int)]) h.2 (by rw [List.length_cons] at hf; omega)
    rw [List.append_assoc, List.length_append, Int.natCast_add] at ih
    rw [nodesV]
    refine ⟨ih.1.trans ?_, ih.2⟩
    rw [List.append_assoc]; rfl
theorem rowV_len : ∀ (n : Nat) (F : List (List UInt8)), F.length ≤ (rowV n F).length
  | _, [] => Nat.zero_le _
  | n, k :: r => by
    have := rowV_len (n + 1) r
    rw [rowV, List.length_append, List.length_cons]
    have h1 : 1 ≤ (encV n k).length := by unfold encV; rw [sealed_length, raw_length]; omega
    omega
/-- the pages hold the nodes of numbers 0 .. c - 1, each page some of them -/
def PG (s c : Nat) (Ps : List ByteArray) : Prop := ∃ o : Nat → Nat, o 0 = 0 ∧ o Ps.length = c ∧ ∀ i, i < Ps.length → ∃ F : List (List UInt8), 0 < F.length ∧ goodV (o i) F ∧ (rowV (o i) F).length ≤ s ∧ o (i + 1) = o i + F.length ∧ Ps.getD i ⟨#[]⟩ = ⟨(rowV (o i) F).toArray⟩
theorem PG.start (s : Nat) : PG s 0 [] := ⟨fun _ => 0, rfl, rfl, fun i h => absurd h (Nat.not_lt_zero _)⟩
theorem PG.more {s c : Nat} {Ps : List ByteArray} (h : PG s c Ps) (F : List (List UInt8)) (h0 : 0 < F.length) (hg : goodV c F) (hs : (rowV c F).length ≤ s) : PG s (c + F.length) (Ps ++ [⟨(rowV c F).toArray⟩]) := by
  obtain ⟨o, o1, o2, o3⟩ := h
  refine ⟨fun i => if i ≤ Ps.length then o i else c + F.length, ?_, ?_, fun i hi => ?_⟩
  · show (if 0 ≤ Ps.length then o 0 else _) = 0
    rw [if_pos (Nat.zero_le _), o1]
  · show (if (Ps ++ [_]).length ≤ Ps.length then _ else _) = _
    rw [List.length_append, List.length_singleton, if_neg (by omega)]
  · rw [List.length_append, List.length_singleton] at hi
    by_cases h1 : i < Ps.length
    · obtain ⟨F', f1, f2, f3, f4, f5⟩ := o3 i h1
      refine ⟨F', f1, ?_⟩
      show goodV (if i ≤ Ps.length then o i else _) F' ∧ (rowV (if i ≤ Ps.length then o i else _) F').length ≤ s ∧ (if i + 1 ≤ Ps.length then o (i + 1) else _) = (if i ≤ Ps.length then o i else _) + _ ∧ _ = ByteArray.mk (rowV (if i ≤ Ps.length then o i else _) F').toArray
      rw [if_pos (by omega), if_pos (by omega)]
      refine ⟨f2, f3, f4, ?_⟩
      rw [← f5, List.getD_eq_getElem?_getD, List.getD_eq_getElem?_getD, List.getElem?_append_left h1]
    · obtain rfl : i = Ps.length := by omega
      refine ⟨F, h0, ?_⟩
      show goodV (if Ps.length ≤ Ps.length then o Ps.length else _) F ∧ (rowV (if Ps.length ≤ Ps.length then o Ps.length else _) F).length ≤ s ∧ (if Ps.length + 1 ≤ Ps.length then _ else _) = (if Ps.length ≤ Ps.length then o Ps.length else _) + _ ∧ _ = ByteArray.mk (rowV (if Ps.length ≤ Ps.length then o Ps.length else _) F).toArray
      rw [if_pos (Nat.le_refl _), if_neg (by omega), o2]
      refine ⟨hg, hs, rfl, ?_⟩
      rw [List.getD_eq_getElem?_getD, List.getElem?_append_right (Nat.le_refl _), Nat.sub_self]; rfl
/-- the pages given and what is held -/
def PB (s n : Nat) (Ps : List ByteArray) (H : ByteArray) : Prop := ∃ (c : Nat) (F : List (List UInt8)), PG s c Ps ∧ goodV c F ∧ H = ⟨(rowV c F).toArray⟩ ∧ n = c + F.length ∧ H.size ≤ s
theorem PB.start (s : Nat) : PB s 0 [] ⟨#[]⟩ := ⟨0, [], PG.start s, trivial, rfl, rfl, Nat.zero_le _⟩
theorem PB.hold {s n : Nat} {Ps : List ByteArray} {H : ByteArray} (h : PB s n Ps H) (k : List UInt8) (hk : goodN (n : Int) false k [] = true) (hs : H.size + (encV n k).length ≤ s) : PB s (n + 1) Ps (H ++ ⟨(encV n k).toArray⟩) := by
  obtain ⟨c, F, h1, h2, rfl, rfl, h5⟩ := h
  refine ⟨c, F ++ [k], h1, goodV_snoc k F c h2 hk, by rw [cat_bytes, rowV_snoc], by rw [List.length_append, List.length_singleton]; omega, by rw [ByteArray.size_append]; exact hs⟩
theorem PB.page {s n : Nat} {Ps : List ByteArray} {H : ByteArray} (h : PB s n Ps H) (h0 : 0 < H.size) : PG s n (Ps ++ [H]) := by
  obtain ⟨c, F, h1, h2, rfl, rfl, h5⟩ := h
  refine h1.more F ?_ h2 h5
  cases F with
  | nil => exact absurd h0 (Nat.not_lt_zero _)
  | cons a F => exact Nat.succ_pos _
theorem PB.next {s n : Nat} {Ps : List ByteArray} {H : ByteArray} (h : PB s n Ps H) (h0 : 0 < H.size) (k : List UInt8) (hk : goodN (n : Int) false k [] = true) (hs : (encV n k).length ≤ s) : PB s (n + 1) (Ps ++ [H]) ⟨(encV n k).toArray⟩ :=
  ⟨n, [k], h.page h0, ⟨hk, trivial⟩, by rw [rowV, rowV, List.append_nil], rfl, hs⟩
theorem PB.none {s n : Nat} {Ps : List ByteArray} {H : ByteArray} (h : PB s n Ps H) (h0 : H.size = 0) : PG s n Ps := by
  obtain ⟨c, F, h1, h2, rfl, rfl, h5⟩ := h
  have h6 : (rowV c F).length = 0 := h0
  have := rowV_len c F
  have e : F.length = 0 := by omega
  rw [e]; exact h1
end Go.Proofs.YthlheamnfjjamaaDoor
