/- Plain: what Decode's answer is of a word with few bits turned; whatever it answers is a code word. -/
import Derived.Test.YtjfbbnmonfankaaKNK
import Derived.Test.YtjfbbnmonfankaaKIj
namespace Go.Proofs.Ytjfbbnmonfankaa
open F
open Go.RowKit Pm
set_option linter.unusedVariables false

/-- bits turned, each told by its place -/
def flips (W : List UInt8) (qs : List Nat) : List UInt8 := qs.foldl flipB W
theorem flips_length (qs : List Nat) : ∀ W, (flips W qs).length = W.length := by
  induction qs with
  | nil => intro W; rfl
  | cons q qs ih => intro W; exact (ih _).trans (flipB_length _ _)
theorem flips_snoc (W : List UInt8) (qs : List Nat) (q : Nat) : flips W (qs ++ [q]) = flipB (flips W qs) q := by unfold flips; rw [List.foldl_append]; rfl
theorem dbit_flips (qs : List Nat) : ∀ (W : List UInt8) (p : Nat), qs.Nodup → (∀ q ∈ qs, q < 8 * W.length) → dbit (flips W qs) p = (dbit W p != decide (p ∈ qs)) := by
  induction qs with
  | nil => intro W p _ _; show dbit W p = (dbit W p != decide (p ∈ [])); simp
  | cons q qs ih =>
    intro W p hn hq
    obtain ⟨h1, h2⟩ := List.nodup_cons.1 hn
    show dbit (flips (flipB W q) qs) p = _
    rw [ih _ _ h2 (fun x hx => by rw [flipB_length]; exact hq x (List.mem_cons_of_mem _ hx)), dbit_flip _ _ _ (hq q List.mem_cons_self)]
    by_cases e : p = q
    · subst e
      rw [decide_eq_true rfl, decide_eq_false h1, decide_eq_true (List.mem_cons_self)]
      cases dbit W p <;> rfl
    · rw [decide_eq_false e]
      have : (p ∈ q :: qs) ↔ p ∈ qs := by simp [e]
      rw [decide_eq_decide.2 this]
      cases dbit W p <;> cases decide (p ∈ qs) <;> rfl
theorem turns_flips (N : Nat) (ps : List Nat) : ∀ W, turns N W ps = flips W (ps.map fun p => N - 1 - p) := by
  unfold turns flips
  intro W
  rw [List.foldl_map]
theorem wv_flips (K N : Nat) (qs : List Nat) : ∀ W : List UInt8, N ≤ 8 * W.length → (∀ q ∈ qs, q < N) → wv K (flips W qs) N = wv K W N + lsum (qs.map fun q => al (N - 1 - q)) (fun X => pow X K) := by
  induction qs with
  | nil => intro W _ _; exact (add_zero _).symm
  | cons q qs ih =>
    intro W hW hq
    have hq' := hq q List.mem_cons_self
    show wv K (flips (flipB W q) qs) N = wv K W N + (pow (al (N - 1 - q)) K + lsum (qs.map _) _)
    rw [ih _ (by rw [flipB_length]; exact hW) (fun x hx => hq x (List.mem_cons_of_mem _ hx)), wv_flip K W N _ hq' hW, pow_al, Nat.mul_comm K, add_assoc]
/-- the exponents in order -/
def expo (N : Nat) (qs : List Nat) : List Nat := (List.range N).filter fun p => decide (N - 1 - p ∈ qs)
theorem expo_asc (N : Nat) (qs : List Nat) : (expo N qs).Pairwise (· < ·) := List.Pairwise.filter _ List.pairwise_lt_range
theorem expo_mem {N : Nat} {qs : List Nat} {p : Nat} : p ∈ expo N qs ↔ p < N ∧ N - 1 - p ∈ qs := by
  unfold expo
  rw [List.mem_filter, List.mem_range, decide_eq_true_eq]
theorem lsum_perm {l l' : List F} (h : l.Perm l') (g : F → F) : lsum l g = lsum l' g := by
  induction h with
  | nil => rfl
  | cons x _ ih => show g x + _ = g x + _; rw [ih]
  | swap x y l => show g y + (g x + lsum l g) = g x + (g y + lsum l g); rw [add_left_comm]
  | trans _ _ h1 h2 => exact h1.trans h2
theorem expo_perm {N : Nat} {qs : List Nat} (hn : qs.Nodup) (hq : ∀ q ∈ qs, q < N) : (expo N qs).Perm (qs.map fun q => N - 1 - q) := by
  refine (List.perm_ext_iff_of_nodup ?_ ?_).2 fun p => ?_
  · exact List.nodup_iff_pairwise_ne.2 ((expo_asc N qs).imp fun h => Nat.ne_of_lt h)
  · refine List.nodup_iff_pairwise_ne.2 (List.pairwise_map.2 (List.Pairwise.imp_of_mem (R := fun a b => a ≠ b) (fun {a b} ha hb hab e => ?_) (List.nodup_iff_pairwise_ne.1 hn)))
    have := hq a ha; have := hq b hb; omega
  · rw [expo_mem, List.mem_map]
    constructor
    · intro ⟨h1, h2⟩
      exact ⟨N - 1 - p, h2, by omega⟩
    · intro ⟨q, h1, h2⟩
      have := hq q h1
      refine ⟨by omega, ?_⟩
      rw [show N - 1 - p = q by omega]; exact h1
theorem expo_length {N : Nat} {qs : List Nat} (hn : qs.Nodup) (hq : ∀ q ∈ qs, q < N) : (expo N qs).length = qs.length := by
  rw [(expo_perm hn hq).length_eq, List.length_map]
theorem nodup_expo (N : Nat) (qs : List Nat) : (expo N qs).Nodup := List.nodup_iff_pairwise_ne.2 ((expo_asc N qs).imp fun h => Nat.ne_of_lt h)
/-- turned twice, all is as it was -/
theorem turns_back {N : Nat} {W : List UInt8} {qs : List Nat} (hN : N ≤ 8 * W.length) (hn : qs.Nodup) (hq : ∀ q ∈ qs, q < N) : turns N (flips W qs) (expo N qs) = W := by
  rw [turns_flips]
  refine bytes_ext (by rw [flips_length, flips_length]) fun p _ => ?_
  have hm : ∀ p, p ∈ ((expo N qs).map fun p => N - 1 - p) ↔ p ∈ qs := fun p => by
    rw [List.mem_map]
    constructor
    · intro ⟨a, h1, h2⟩
      obtain ⟨h3, h4⟩ := expo_mem.1 h1
      rw [← h2]; exact h4
    · intro h
      have := hq p h
      exact ⟨N - 1 - p, expo_mem.2 ⟨by omega, by rw [show N - 1 - (N - 1 - p) = p by omega]; exact h⟩, by omega⟩
  have hnd : ((expo N qs).map fun p => N - 1 - p).Nodup := by
    refine List.nodup_iff_pairwise_ne.2 (List.pairwise_map.2 (List.Pairwise.imp_of_mem (R := fun a b => a ≠ b) (fun {a b} ha hb hab e => ?_) (List.nodup_iff_pairwise_ne.1 (nodup_expo N qs))))
    have := (expo_mem.1 ha).1; have := (expo_mem.1 hb).1; omega
  rw [dbit_flips _ _ _ hnd (fun q hq' => by rw [flips_length]; have := hq q ((hm q).1 hq'); omega), dbit_flips _ _ _ hn (fun q h => by have := hq q h; omega), decide_eq_decide.2 (hm p)]
  cases dbit W p <;> cases decide (p ∈ qs) <;> rfl

/-- all that a code needs -/
theorem codeP (t : Nat) (h1 : 1 ≤ t) (h8 : t ≤ 8) : (∀ k, k < (tl t).length → ∃ e : Nat, (tl t).getD k 0 = (e : Int) ∧ e < 13 * t) ∧ (tailR (13 * t) (tl t)).Ok ∧ ∀ K, 1 ≤ K → K ≤ 2 * t → Root (13 * t) K (tailR (13 * t) (tl t)) := by
  obtain ⟨he, _, htl⟩ := gen_list t h1 h8
  refine ⟨htl, tailR_ok (13 * t) (tl t) (by omega), fun K k1 k2 => root_of (13 * t) K (by omega) (tl t) (fun e hm => ?_) ?_⟩
  · obtain ⟨i, hi, rfl⟩ := List.getElem_of_mem hm
    obtain ⟨n, h, hl⟩ := htl i hi
    rw [List.getD_eq_getElem?_getD, List.getElem?_eq_getElem hi] at h
    exact ⟨n, h, hl⟩
  · rw [← he]; exact roots_zero t K h1 h8 k1 k2
theorem remOf_regs (t : Nat) (h1 : 1 ≤ t) (h8 : t ≤ 8) (l : List UInt8) : remOf (stepS t) l = regs (tailR (13 * t) (tl t)) l (8 * l.length) := by
  have h := fold_regs (codeP t h1 h8).2.1 l l.length (Nat.le_refl _)
  rw [List.take_length] at h
  exact h
/-- the word as the program has it: the parity without its spare bits -/
theorem dbit_textFrom (par : ByteArray) (t : Nat) (h8 : t ≤ 8) (hp : par.size = (13 * t + 7) / 8) (j : Nat) : dbit (textL (fromT par (13 * t)) par.size) j = (decide (j < 13 * t) && dbit par.data.toList j) := by
  have hz : ∀ j, 13 * t ≤ j → rb (fromT par (13 * t)) j = false := fun j hj => by rw [rb_from par (13 * t) (by omega), decide_eq_false (by omega), Bool.false_and]
  rw [hp, textL_txt (from_ok par (13 * t)) (13 * t) hz, dbit_txt _ _ _ hz, rb_from par (13 * t) (by omega)]
theorem wordOf_length (t : Nat) (data par : ByteArray) : (wordOf t data par).length = data.size + par.size := by
  unfold wordOf
  rw [List.length_append, textL_length]; rfl
/-- the rest's values are the word's -/
theorem rest_wv (t : Nat) (h1 : 1 ≤ t) (h8 : t ≤ 8) (data par : ByteArray) (hp : par.size = (13 * t + 7) / 8) (K : Nat) (k1 : 1 ≤ K) (k2 : K ≤ 2 * t) : evR (13 * t) K (restOf t data par) = wv K (wordOf t data par) (8 * data.size + 13 * t) := by
  obtain ⟨a, b, c⟩ := codeP t h1 h8
  have h := wv_rest (d := 13 * t) (by omega) (by omega) a b (c K k1 k2) data.data.toList (textL (fromT par (13 * t)) par.size) (fromT par (13 * t)) (fun j hj => by
    rw [dbit_textFrom par t h8 hp, rb_from par (13 * t) (by omega)])
  unfold restOf
  rw [remOf_regs t h1 h8]
  exact h
/-- a code word's values are 0 -/
theorem word_zero (t : Nat) (h1 : 1 ≤ t) (h8 : t ≤ 8) (l : List UInt8) (K : Nat) (k1 : 1 ≤ K) (k2 : K ≤ 2 * t) : wv K (l ++ parT t l) (8 * l.length + 13 * t) = 0 := by
  obtain ⟨a, b, c⟩ := codeP t h1 h8
  unfold parT
  rw [remOf_regs t h1 h8]
  exact wv_code t h8 h1 (tl t) a b (c K k1 k2) l
/-- the spare bits of a parity are 0 -/
theorem parT_spare (t : Nat) (h1 : 1 ≤ t) (h8 : t ≤ 8) (l : List UInt8) (j : Nat) (hj : 13 * t ≤ j) : dbit (parT t l) j = false := by
  obtain ⟨a, b, c⟩ := codeP t h1 h8
  have hreg := regs_ok b l (8 * l.length)
  have hhigh := fun j hj => regs_high (13 * t) (by omega) (tl t) a b l (8 * l.length) j hj
  unfold parT
  rw [remOf_regs t h1 h8, textL_txt hreg (13 * t) hhigh, dbit_txt _ _ _ hhigh, hhigh j hj]
/-- of a code word with few bits turned the answer is the code word -/
theorem good_flips (t : Nat) (h1 : 1 ≤ t) (h8 : t ≤ 8) (l : List UInt8) (hl : l.length ≤ 256) (qs : List Nat) (hn : qs.Nodup) (hq : ∀ q ∈ qs, q < 8 * l.length + 13 * t) (data par : ByteArray) (hd : data.size = l.length) (hp : par.size = (13 * t + 7) / 8)
    (hw : wordOf t data par = flips (l ++ parT t l) qs) (hqt : qs.length ≤ t) : Good t (8 * l.length + 13 * t) (restOf t data par) (expo (8 * l.length + 13 * t) qs) ∧ turns (8 * l.length + 13 * t) (wordOf t data par) (expo (8 * l.length + 13 * t) qs) = l ++ parT t l := by
  have hN : 8 * l.length + 13 * t ≤ 8 * (l ++ parT t l).length := by rw [List.length_append, parT_length]; omega
  refine ⟨⟨expo_asc _ _, fun p hp => (expo_mem.1 hp).1, by rw [expo_length hn hq]; exact hqt, fun K k1 k2 => ?_⟩, ?_⟩
  · rw [rest_wv t h1 h8 data par hp K k1 k2, hd, hw, wv_flips K _ qs _ hN hq, word_zero t h1 h8 l K k1 k2, zero_add]
    refine (lsum_perm ?_ _)
    have h9 := (expo_perm hn hq).map al
    rw [List.map_map] at h9
    exact h9.symm
  · rw [hw]; exact turns_back hN hn hq
/-- whatever is answered is a code word -/
theorem good_code (t k : Nat) (h1 : 1 ≤ t) (h8 : t ≤ 8) (data par : ByteArray) (hd : data.size = k) (hp : par.size = (13 * t + 7) / 8) (ps : List Nat) (hg : Good t (8 * k + 13 * t) (restOf t data par) ps) :
    parT t ((turns (8 * k + 13 * t) (wordOf t data par) ps).take k) = (turns (8 * k + 13 * t) (wordOf t data par) ps).drop k := by
  obtain ⟨a, b, c⟩ := codeP t h1 h8
  obtain ⟨g1, g2, g3, g4⟩ := hg
  have hlen : (wordOf t data par).length = k + (13 * t + 7) / 8 := by rw [wordOf_length, hd, hp]
  have hN : 8 * k + 13 * t ≤ 8 * (wordOf t data par).length := by omega
  obtain ⟨T, hT⟩ : ∃ T, turns (8 * k + 13 * t) (wordOf t data par) ps = T := ⟨_, rfl⟩
  have hTl : T.length = k + (13 * t + 7) / 8 := by rw [← hT, turns_length, hlen]
  have hsp : ∀ q, 8 * k + 13 * t ≤ q → dbit T q = false := fun q hq => by
    rw [← hT, dbit_turns _ _ _ _ hN g2 hq]
    unfold wordOf
    obtain ⟨j, rfl⟩ : ∃ j, q = 8 * data.data.toList.length + j := ⟨q - 8 * k, by have : data.data.toList.length = data.size := rfl; omega⟩
    have : data.data.toList.length = data.size := rfl
    rw [dbit_right, dbit_textFrom par t h8 hp, decide_eq_false (by omega), Bool.false_and]
  have hev : ∀ K, 1 ≤ K → K ≤ 2 * t → wv K T (8 * k + 13 * t) = 0 := fun K k1 k2 => by
    rw [← hT, wv_turns K _ ps _ hN g2, ← g4 K k1 k2, rest_wv t h1 h8 data par hp K k1 k2, hd, add_self]
  rw [hT]
  have hsplit : T.take k ++ T.drop k = T := List.take_append_drop k T
  have htl : (T.take k).length = k := by rw [List.length_take]; omega
  have h9 := code_iff t h1 h8 (tl t) a b c (T.take k) (T.drop k) (by rw [List.length_drop]; omega) (fun j hj => by
    have := hsp (8 * k + j) (by omega)
    rw [← hsplit, ← htl] at this
    rw [htl] at this
    have e := dbit_right (T.take k) (T.drop k) j
    rw [htl] at e
    rw [← e]; exact this) (fun K k1 k2 => by rw [hsplit, htl]; exact hev K k1 k2)
  unfold parT
  rw [remOf_regs t h1 h8]
  exact h9
end Go.Proofs.Ytjfbbnmonfankaa
