/- Plain: keys and their texts. -/
import Derived.Test.YthlheamnfjjamaaDoorKk
namespace Go.Proofs.YthlheamnfjjamaaDoor
open Go.RowKit

def tailK (k : Int) (s : List UInt8) (p : Int) : List UInt8 := if k = 2 then s else if k = 3 then beZ 4 p else []
theorem encK_eq (n k : Int) (s : List UInt8) (p : Int) : encK n k s p = beZ 8 n ++ (beZ 1 k ++ tailK k s p) := by
  unfold encK tailK; rw [List.append_assoc]
theorem encK_eq' (n k : Int) (s : List UInt8) (p : Int) : encK n k s p = (beZ 8 n ++ beZ 1 k) ++ tailK k s p := rfl
theorem goodK_parts {n k : Int} {s : List UInt8} {p : Int} (h : goodK n k s p = true) : 0 ≤ n ∧ n ≤ 1099511627776 ∧ ((k = 1 ∧ s = [] ∧ p = 0) ∨ (k = 2 ∧ 1 ≤ s.length ∧ s.length ≤ 32 ∧ p = 0) ∨ (k = 3 ∧ s = [] ∧ 0 ≤ p ∧ p ≤ 4294967295)) := by
  unfold goodK at h
  rw [Bool.and_eq_true, okN_iff] at h
  exact ⟨h.1.1, h.1.2, restOk_kind h.2⟩
theorem beZ_one (j : Nat) (h : j < 256) : beZ 1 (j : Int) = [UInt8.ofNat j] := by
  have h1 : (2 : Int) ^ (8 * 0) = 1 := rfl
  have : ((j : Int) / 2 ^ (8 * 0) % 256).toNat = j := by rw [h1]; omega
  unfold beZ beZ
  rw [this]
theorem val_nat (k : Nat) (n : Int) (h0 : 0 ≤ n) (h1 : n < ((256 ^ k : Nat) : Int)) : ((valN (beZ k n) : Nat) : Int) = n := by
  obtain ⟨m, rfl⟩ : ∃ m : Nat, n = (m : Int) := ⟨n.toNat, by omega⟩
  rw [valN_beZK k m (Int.ofNat_lt.1 h1)]
theorem wrap_small (n : Int) (h0 : 0 ≤ n) (h1 : n ≤ 4611686018427387904) : wrap64 n = n := by unfold wrap64; omega
theorem dec_enc {n k : Int} {s : List UInt8} {p : Int} (h : goodK n k s p = true) :
    numL (encK n k s p) = n ∧ kindL (encK n k s p) = k ∧ nameL (encK n k s p) = s ∧ pieceL (encK n k s p) = p := by
  obtain ⟨h0, h1, hr⟩ := goodK_parts h
  have hk : 0 ≤ k ∧ k ≤ 3 := by rcases hr with ⟨rfl, _⟩ | ⟨rfl, _⟩ | ⟨rfl, _⟩ <;> exact ⟨by omega, by omega⟩
  obtain ⟨j, rfl⟩ : ∃ j : Nat, k = (j : Int) := ⟨k.toNat, by omega⟩
  have e1 := beZ_one j (by omega)
  have l8 := beZ_length 8 n
  have hnum : numL (encK n (j : Int) s p) = n := by
    unfold numL
    rw [encK_eq, List.take_left' l8, val_nat 8 n h0 (by omega), wrap_small n h0 (by omega)]
  have hkind : kindL (encK n (j : Int) s p) = (j : Int) := by
    unfold kindL
    rw [encK_eq, List.getD_eq_getElem?_getD, List.getElem?_append_right (by omega), l8, e1]
    show (((UInt8.ofNat j).toNat : Nat) : Int) = (j : Int)
    rw [u8_ofNat']; omega
  have hdrop : (encK n (j : Int) s p).drop 9 = tailK j s p := by
    rw [encK_eq', List.drop_left' (head_len _ _)]
  refine ⟨hnum, hkind, ?_, ?_⟩
  · unfold nameL
    rw [hkind, hdrop]
    unfold tailK
    rcases hr with ⟨h, rfl, _⟩ | ⟨h, _⟩ | ⟨h, rfl, _⟩
    · rw [if_neg (by omega)]
    · rw [if_pos h, if_pos h]
    · rw [if_neg (by omega)]
  · unfold pieceL
    rw [hkind, hdrop]
    unfold tailK
    rcases hr with ⟨h, _, rfl⟩ | ⟨h, _, _, rfl⟩ | ⟨h, _, p0, p1⟩
    · rw [if_neg (by omega)]
    · rw [if_neg (by omega)]
    · rw [if_pos h, if_neg (by omega), if_pos h, val_nat 4 p p0 (by omega), wrap_small p p0 (by omega)]
theorem encK_length {n k : Int} {s : List UInt8} {p : Int} (h : goodK n k s p = true) : 9 ≤ (encK n k s p).length ∧ (encK n k s p).length ≤ 41 := by
  obtain ⟨h0, h1, hr⟩ := goodK_parts h
  rw [encK_eq', List.length_append, head_len]
  unfold tailK
  rcases hr with ⟨g, rfl, _⟩ | ⟨g, _, _, rfl⟩ | ⟨g, rfl, p0, p1⟩
  · rw [if_neg (by omega), if_neg (by omega)]; simp
  · rw [if_pos g]; omega
  · rw [if_neg (by omega), if_pos g, beZ_length]; omega
theorem decOk_enc {n k : Int} {s : List UInt8} {p : Int} (h : goodK n k s p = true) : decOk (encK n k s p) = true := by
  obtain ⟨a, b, c, d⟩ := dec_enc h
  unfold decOk
  rw [a, b, c, d, h, decide_eq_true (encK_length h).1]
  simp
theorem split9 (l : List UInt8) (h : 9 ≤ l.length) : l = beZ 8 ((valN (l.take 8) : Nat) : Int) ++ (beZ 1 (kindL l) ++ l.drop 9) := by
  have e1 := beZ_valN (l.take 8)
  rw [List.length_take, Nat.min_eq_left (by omega)] at e1
  rw [e1]
  have e2 : beZ 1 (kindL l) = [l[8]] := by
    unfold kindL
    rw [beZ_one _ (UInt8.toNat_lt _), List.getD_eq_getElem?_getD, List.getElem?_eq_getElem (by omega)]
    simp
  rw [e2]
  have e3 : [l[8]] ++ l.drop 9 = l.drop 8 := by
    rw [List.drop_eq_getElem_cons (l := l) (i := 8) (by omega)]; rfl
  rw [e3, List.take_append_drop]
theorem dec_piece (l : List UInt8) (h : l.length = 13) (hk : kindL l = 3) (hn : valN (l.take 8) ≤ 1099511627776) : decOk l = true := by
  have e := split9 l (by omega)
  have e4 := beZ_valN (l.drop 9)
  have hlt := valN_lt (l.drop 9)
  have h4 : (l.drop 9).length = 4 := by rw [List.length_drop]; omega
  rw [h4] at e4 hlt
  have hp : pieceL l = ((valN (l.drop 9) : Nat) : Int) := by
    unfold pieceL
    rw [if_pos hk, wrap_small _ (by omega) (by omega)]
  have hnn : numL l = ((valN (l.take 8) : Nat) : Int) := by
    unfold numL
    rw [wrap_small _ (by omega) (by omega)]
  have hnm : nameL l = [] := by unfold nameL; rw [if_neg (by omega)]
  unfold decOk
  rw [hp, hnn, hnm, hk]
  have g : goodK ((valN (l.take 8) : Nat) : Int) 3 [] ((valN (l.drop 9) : Nat) : Int) = true := by
    simp [goodK, okN, restOk]; omega
  rw [g, decide_eq_true (by omega), encK_eq]
  unfold tailK
  rw [if_neg (by omega), if_pos rfl, e4]
  rw [hk] at e
  rw [← e]
  simp
theorem dec_name (l : List UInt8) (h : 9 ≤ l.length) (hk : ¬ kindL l = 3) (hg : goodK ((valN (l.take 8) : Nat) : Int) (kindL l) (l.drop 9) 0 = true) : decOk l = true := by
  have e := split9 l h
  obtain ⟨h0, h1, hr⟩ := goodK_parts hg
  have hp : pieceL l = 0 := by unfold pieceL; rw [if_neg hk]
  have hnn : numL l = ((valN (l.take 8) : Nat) : Int) := by
    unfold numL
    rw [wrap_small _ (by omega) (by omega)]
  have hnm : nameL l = l.drop 9 := by
    unfold nameL
    rcases hr with ⟨h, h2, _⟩ | ⟨h, _⟩ | ⟨h, _⟩
    · rw [if_neg (by omega), h2]
    · rw [if_pos h]
    · exact absurd h hk
  unfold decOk
  rw [hp, hnn, hnm, hg, decide_eq_true h, encK_eq]
  have ht : tailK (kindL l) (l.drop 9) 0 = l.drop 9 := by
    unfold tailK
    rcases hr with ⟨h, h2, _⟩ | ⟨h, _⟩ | ⟨h, _⟩
    · rw [if_neg (by omega), if_neg hk, h2]
    · rw [if_pos h]
    · exact absurd h hk
  rw [ht, ← e]
  simp
theorem bl_same (l : List UInt8) : Op.bytesLess l l = false := by rw [bl_val l l rfl]; simp
theorem head_less {n k n' k' : Int} (h0 : 0 ≤ n) (h1 : n ≤ 1099511627776) (h2 : 0 ≤ k) (h3 : k ≤ 255) (h0' : 0 ≤ n') (h1' : n' ≤ 1099511627776) (h2' : 0 ≤ k') (h3' : k' ≤ 255) :
    Op.bytesLess (beZ 8 n ++ beZ 1 k) (beZ 8 n' ++ beZ 1 k') = decide (256 * n + k < 256 * n' + k') ∧ ((beZ 8 n ++ beZ 1 k) == (beZ 8 n' ++ beZ 1 k')) = decide (n = n' ∧ k = k') := by
  have e1 := head_val n k h0 h1 h2 h3
  have e2 := head_val n' k' h0' h1' h2' h3'
  refine ⟨?_, ?_⟩
  · rw [bl_val _ _ (by rw [head_len, head_len])]
    exact decide_eq_decide.2 (by omega)
  · rw [eq_val _ _ (by rw [head_len, head_len])]
    exact decide_eq_decide.2 (by omega)
theorem enc_less {n k : Int} {s : List UInt8} {p n' k' : Int} {s' : List UInt8} {p' : Int} (h : goodK n k s p = true) (h' : goodK n' k' s' p' = true) :
    Op.bytesLess (encK n k s p) (encK n' k' s' p') = lessK n k s p n' k' s' p' := by
  obtain ⟨h0, h1, hr⟩ := goodK_parts h
  obtain ⟨h0', h1', hr'⟩ := goodK_parts h'
  have hk : 0 ≤ k ∧ k ≤ 3 := by rcases hr with ⟨rfl, _⟩ | ⟨rfl, _⟩ | ⟨rfl, _⟩ <;> exact ⟨by omega, by omega⟩
  have hk' : 0 ≤ k' ∧ k' ≤ 3 := by rcases hr' with ⟨rfl, _⟩ | ⟨rfl, _⟩ | ⟨rfl, _⟩ <;> exact ⟨by omega, by omega⟩
  obtain ⟨e1, e2⟩ := head_less h0 h1 hk.1 (by omega) h0' h1' hk'.1 (by omega) (n := n) (n' := n')
  rw [encK_eq', encK_eq', bl_append _ _ _ _ (by rw [head_len, head_len]), e1, e2]
  unfold lessK
  by_cases en : n = n'
  · subst en
    rw [if_neg (fun h => h rfl)]
    by_cases ek : k = k'
    · subst ek
      rw [if_neg (fun h => h rfl), decide_eq_false (by omega), decide_eq_true ⟨rfl, rfl⟩, Bool.false_or, Bool.true_and]
      unfold tailK
      rcases hr with ⟨rfl, rfl, rfl⟩ | ⟨rfl, _, _, rfl⟩ | ⟨rfl, rfl, p0, p1⟩
      · rcases hr' with ⟨_, rfl, rfl⟩ | ⟨h, _⟩ | ⟨h, _⟩
        · rfl
        · cases h
        · cases h
      · rcases hr' with ⟨h, _⟩ | ⟨_, _, _, rfl⟩ | ⟨h, _⟩
        · cases h
        · rw [if_pos rfl, if_pos rfl]
          by_cases es : s = s'
          · subst es
            rw [bl_same]; simp
          · rw [if_pos es]
        · cases h
      · rcases hr' with ⟨h, _⟩ | ⟨h, _⟩ | ⟨_, rfl, q0, q1⟩
        · cases h
        · cases h
        · rw [if_neg (by decide), if_pos rfl, if_neg (by decide), if_pos rfl, if_neg (fun h => h rfl), bl_val _ _ (by rw [beZ_length, beZ_length])]
          have a1 := val_nat 4 p p0 (by omega)
          have a2 := val_nat 4 p' q0 (by omega)
          exact decide_eq_decide.2 (by omega)
    · rw [if_pos ek, decide_eq_false (p := n = n ∧ k = k') (fun h => ek h.2), Bool.false_and, Bool.or_false]
      exact decide_eq_decide.2 (by omega)
  · rw [if_pos en, decide_eq_false (p := n = n' ∧ k = k') (fun h => en h.1), Bool.false_and, Bool.or_false]
    exact decide_eq_decide.2 (by omega)
theorem enc_same {n k : Int} {s : List UInt8} {p n' k' : Int} {s' : List UInt8} {p' : Int} (h : goodK n k s p = true) (h' : goodK n' k' s' p' = true) (e : encK n k s p = encK n' k' s' p') : n = n' ∧ k = k' ∧ s = s' ∧ p = p' := by
  obtain ⟨a, b, c, d⟩ := dec_enc h
  obtain ⟨a', b', c', d'⟩ := dec_enc h'
  rw [e] at a b c d
  exact ⟨a.symm.trans a', b.symm.trans b', c.symm.trans c', d.symm.trans d'⟩
/-- a key's text against the two ends of a range -/
theorem enc_range {n k : Int} {s : List UInt8} {p n' k' : Int} (h : goodK n k s p = true) (h0' : 0 ≤ n') (h1' : n' ≤ 1099511627776) (h2' : 1 ≤ k') (h3' : k' ≤ 3) :
    Op.bytesLess (encK n k s p) (beZ 8 n' ++ beZ 1 k') = decide (256 * n + k < 256 * n' + k') ∧ Op.bytesLess (encK n k s p) (beZ 8 n' ++ beZ 1 (k' + 1)) = decide (256 * n + k < 256 * n' + k' + 1) := by
  obtain ⟨h0, h1, hr⟩ := goodK_parts h
  have hk : 0 ≤ k ∧ k ≤ 3 := by rcases hr with ⟨rfl, _⟩ | ⟨rfl, _⟩ | ⟨rfl, _⟩ <;> exact ⟨by omega, by omega⟩
  have key : ∀ j : Int, 0 ≤ j → j ≤ 255 → Op.bytesLess (encK n k s p) (beZ 8 n' ++ beZ 1 j) = decide (256 * n + k < 256 * n' + j) := fun j j0 j1 => by
    obtain ⟨e1, e2⟩ := head_less h0 h1 hk.1 (by omega) h0' h1' j0 j1 (n := n) (n' := n')
    have := bl_append (beZ 8 n ++ beZ 1 k) (beZ 8 n' ++ beZ 1 j) (tailK k s p) [] (by rw [head_len, head_len])
    rw [List.append_nil] at this
    rw [encK_eq', this, e1, bl_nil, Bool.and_false, Bool.or_false]
  refine ⟨key k' (by omega) (by omega), ?_⟩
  rw [key (k' + 1) (by omega) (by omega)]
  exact decide_eq_decide.2 (by omega)
end Go.Proofs.YthlheamnfjjamaaDoor
