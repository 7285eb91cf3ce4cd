/- The document's Decode of any text at any place; NodeDecodes. -/
import Derived.Test.YthlheamnfjjamaaDoorOt
namespace Go.Proofs.YthlheamnfjjamaaDoor
open Go.RowKit Cm
attribute [local irreducible] beZ valN Cm.shs Cm.nxt Cm.reg Cm.ext
attribute [local go_sem ↓] Go.wp_at_zero Go.wp_at_succ
set_option linter.unusedVariables false

theorem toN (a : List UInt8) : (ByteArray.mk a.toArray).toList = a := by rw [ByteArray.toList_eq]
/-- a byte behind a place -/
theorem at_drop (l : List UInt8) (p i : Nat) (h : p + i < (⟨l.toArray⟩ : ByteArray).size) : ((⟨l.toArray⟩ : ByteArray)[p + i]'h).toNat = ((l.drop p).getD i 0).toNat := by
  have h' : p + i < l.length := h
  show (l[p + i]'h').toNat = _
  rw [List.getD_eq_getElem?_getD, List.getElem?_drop, List.getElem?_eq_getElem h']; rfl
theorem val1 (c : UInt8) : valN [c] = c.toNat := by simp [valN]
theorem val2 (b c : UInt8) : valN [b, c] = 256 * b.toNat + c.toNat := by simp [valN]
theorem take1 (r : List UInt8) (i : Nat) (h : i < r.length) : (r.drop i).take 1 = [r.getD i 0] := by
  rw [List.drop_eq_getElem_cons h, List.take_succ_cons, List.take_zero, List.getD_eq_getElem?_getD, List.getElem?_eq_getElem h]; rfl
theorem take2 (r : List UInt8) (i : Nat) (h : i + 1 < r.length) : (r.drop i).take 2 = [r.getD i 0, r.getD (i + 1) 0] := by
  rw [List.drop_eq_getElem_cons (by omega), List.take_succ_cons, List.drop_eq_getElem_cons h, List.take_succ_cons, List.take_zero, List.getD_eq_getElem?_getD, List.getElem?_eq_getElem (by omega), List.getD_eq_getElem?_getD, List.getElem?_eq_getElem h]; rfl
theorem klen_is (r : List UInt8) (h : 13 ≤ r.length) : klenL r = (r.getD 10 0).toNat ∧ vlenL r = 256 * (r.getD 11 0).toNat + (r.getD 12 0).toNat := by
  unfold klenL vlenL
  rw [take1 r 10 (by omega), take2 r 11 (by omega), val1, val2]
  exact ⟨rfl, rfl⟩
theorem seq_is (t : List UInt8) (h : 10 ≤ t.length) : numR ((t.drop 2).take 8) = seqL t ∨ okN (numR ((t.drop 2).take 8)) = false ∧ okN (seqL t) = false := by
  have hb := valN_bound ((t.drop 2).take 8)
  rw [show ((t.drop 2).take 8).length = 8 by rw [List.length_take, List.length_drop]; omega] at hb
  unfold numR seqL
  generalize valN ((t.drop 2).take 8) = m at *
  by_cases hm : m ≤ 1099511627776
  · rw [if_pos hm, w64_nat m (by omega)]; exact .inl rfl
  · right
    rw [if_neg hm]
    refine ⟨rfl, ?_⟩
    unfold okN wrap64
    have h2 : (256 : Nat) ^ 8 = 18446744073709551616 := by decide
    rw [h2] at hb
    simp only [Bool.and_eq_false_iff, decide_eq_false_iff_not]
    omega
theorem good_seq (n m : Int) (g : Bool) (k v : List UInt8) (h : n = m ∨ okN n = false ∧ okN m = false) : goodN n g k v = goodN m g k v := by
  rcases h with rfl | ⟨h1, h2⟩
  · rfl
  · unfold goodN; rw [h1, h2]
theorem refDecode_any (l : List UInt8) (a : Int) (w : World) (hl : l.length ≤ 281474976710656) :
    Calls Tryd.prog 16 #[.string ⟨l.toArray⟩, .int .i64 a] w fun e w' => e = .returned (.tuple #[(decP l a).1, .int .i64 (decP l a).2.1, .int .i64 (decP l a).2.2]) ∧ Upd noBlock w w' := by
  have hz : (⟨l.toArray⟩ : ByteArray).size = l.length := rfl
  unfold decP
  by_cases h0 : a < 0 ∨ (l.length : Int) < a
  · rw [if_pos h0]
    exact rdec_arg w _ _ hz (by omega) a (by omega)
  rw [if_neg h0]
  obtain ⟨p, rfl⟩ : ∃ p : Nat, a = (p : Int) := ⟨a.toNat, by omega⟩
  rw [Int.toNat_natCast]
  have hp : p ≤ l.length := by omega
  obtain ⟨r, hr⟩ : ∃ r, l.drop p = r := ⟨_, rfl⟩
  have hrl : r.length = l.length - p := by rw [← hr, List.length_drop]
  rw [hr]
  unfold decR
  by_cases he : p = l.length
  · have hn : r = [] := List.eq_nil_of_length_eq_zero (by omega)
    rw [if_pos (.inl hn), he]
    exact rdec_end w _ _ hz (by omega)
  have hne : r ≠ [] := fun h => he (by rw [h] at hrl; simp at hrl; omega)
  have hpq : p < (⟨l.toArray⟩ : ByteArray).size := by show p < l.length; omega
  have hat : ∀ i, (h : p + i < (⟨l.toArray⟩ : ByteArray).size) → ((⟨l.toArray⟩ : ByteArray)[p + i]'h).toNat = (r.getD i 0).toNat := fun i h => by rw [at_drop l p i h, hr]
  have hc0 : ((⟨l.toArray⟩ : ByteArray)[p]'hpq).toNat = (r.getD 0 0).toNat := hat 0 hpq
  obtain ⟨c, hc⟩ : ∃ c : UInt8, r.getD 0 0 = c := ⟨_, rfl⟩
  rw [hc] at hc0 ⊢
  by_cases hcz : c = 0
  · rw [if_pos (.inr hcz)]
    exact rdec_head w _ _ hz (by omega) p (by omega) hpq c.toNat hc0 3 (.inl ⟨by rw [hcz]; rfl, rfl⟩)
  rw [if_neg (fun h => h.elim hne hcz)]
  have hcn : c.toNat ≠ 0 := fun h => hcz (UInt8.toNat_inj.1 h)
  by_cases h78 : c ≠ 78
  · rw [if_pos h78]
    exact rdec_head w _ _ hz (by omega) p (by omega) hpq c.toNat hc0 4 (.inr (.inl ⟨⟨hcn, fun h => h78 (UInt8.toNat_inj.1 h)⟩, rfl⟩))
  rw [if_neg h78]
  have h78' : c = 78 := Decidable.not_not.1 h78
  have hc78 : ((⟨l.toArray⟩ : ByteArray)[p]'hpq).toNat = 78 := by rw [hc0, h78']; rfl
  by_cases h13 : r.length < 13
  · rw [if_pos h13]
    exact rdec_head w _ _ hz (by omega) p (by omega) hpq 78 hc78 60 (.inr (.inr ⟨⟨rfl, by omega⟩, rfl⟩))
  rw [if_neg h13]
  obtain ⟨hk, hv⟩ := klen_is r (by omega)
  have hkb := (r.getD 10 0).toNat_lt
  have hvb1 := (r.getD 11 0).toNat_lt
  have hvb2 := (r.getD 12 0).toNat_lt
  by_cases hlt : r.length < 17 + klenL r + vlenL r
  · rw [if_pos hlt]
    exact rdec_cut w _ _ hz (by omega) p (by omega) hpq hc78 (r.getD 10 0).toNat (r.getD 11 0).toNat (r.getD 12 0).toNat (by show p + 10 < l.length; omega) (hat 10 _) (by show p + 11 < l.length; omega) (hat 11 _) (by show p + 12 < l.length; omega) (hat 12 _) (by omega) (by omega) (by omega) (by omega)
  rw [if_neg hlt]
  rw [hk]
  rw [hk] at hlt
  obtain ⟨kl, hkl⟩ : ∃ kl, (r.getD 10 0).toNat = kl := ⟨_, rfl⟩
  obtain ⟨vl, hvl⟩ : ∃ vl, vlenL r = vl := ⟨_, rfl⟩
  rw [hvl] at hv hlt ⊢
  rw [hkl] at hkb hlt ⊢
  obtain ⟨t, ht⟩ : ∃ t, r.take (13 + kl + vl) = t := ⟨_, rfl⟩
  have htl : t.length = 13 + kl + vl := by rw [← ht, List.length_take]; omega
  rw [ht]
  have x1 : (⟨l.toArray⟩ : ByteArray).extract p (p + 13 + kl + vl) = ⟨t.toArray⟩ := by
    rw [ext_str, hr, show p + 13 + kl + vl - p = 13 + kl + vl by omega, ht]
  have x2 : (⟨l.toArray⟩ : ByteArray).extract p (p + 13 + kl + vl + 4) = ⟨(r.take (17 + kl + vl)).toArray⟩ := by
    rw [ext_str, hr, show p + 13 + kl + vl + 4 - p = 17 + kl + vl by omega]
  have HSL := fun W => refSeal_any ⟨t.toArray⟩ W (by show t.length ≤ _; omega)
  by_cases hsl : sealed t ≠ r.take (17 + kl + vl)
  · rw [if_pos hsl]
    refine rdec_sum w _ _ hz (by omega) p (by omega) hpq hc78 kl (r.getD 11 0).toNat (r.getD 12 0).toNat (by show p + 10 < l.length; omega) ((hat 10 _).trans hkl) (by show p + 11 < l.length; omega) (hat 11 _) (by show p + 12 < l.length; omega) (hat 12 _) hkb (by omega) (by omega) vl hv (by omega) _ _ ⟨(sealed t).toArray⟩ x1 x2 HSL ?_
    rw [toN, toN]
    exact beq_eq_false_iff_ne.2 hsl
  rw [if_neg hsl]
  have hsl' := Decidable.not_not.1 hsl
  have hg1 : t.getD 1 0 = r.getD 1 0 := by
    rw [← ht, List.getD_eq_getElem?_getD, List.getD_eq_getElem?_getD, List.getElem?_take, if_pos (by omega)]
  have hkt : klenL t = kl := by rw [← ht, (klen_take r _ (by omega)).1, hk, hkl]
  have y1 : (⟨l.toArray⟩ : ByteArray).extract (p + 2) (p + 10) = ⟨((t.drop 2).take 8).toArray⟩ := by
    rw [ext_str, ← List.drop_drop, hr, show p + 10 - (p + 2) = 8 by omega, ← ht, List.drop_take, List.take_take, show min 8 (13 + kl + vl - 2) = 8 by omega]
  have y2 : (⟨l.toArray⟩ : ByteArray).extract (p + 13) (p + 13 + kl) = ⟨(keyL t).toArray⟩ := by
    unfold keyL
    rw [hkt, ext_str, ← List.drop_drop, hr, show p + 13 + kl - (p + 13) = kl by omega, ← ht, List.drop_take, List.take_take, show min kl (13 + kl + vl - 13) = kl by omega]
  have y3 : (⟨l.toArray⟩ : ByteArray).extract (p + 13 + kl) (p + 13 + kl + vl) = ⟨(valL t).toArray⟩ := by
    unfold valL
    rw [hkt, ext_str, show p + 13 + kl = p + (13 + kl) by omega, ← List.drop_drop, hr, show p + (13 + kl) + vl - (p + (13 + kl)) = vl by omega, ← ht, List.drop_take, show 13 + kl + vl - (13 + kl) = vl by omega]
  have HN := fun W => refNumber_any ((t.drop 2).take 8) W (by rw [List.length_take, List.length_drop]; omega)
  have HG := fun W => refGoodN_any (numR ((t.drop 2).take 8)) (goneL t) (lastL t) (keyL t) (valL t) W (by unfold keyL; rw [List.length_take, List.length_drop]; unfold maxLen; omega) (by unfold valL; rw [List.length_drop]; unfold maxLen; omega)
  have hgs := good_seq _ _ (goneL t) (keyL t) (valL t) (seq_is t (by omega))
  have h := rdec_rest w _ _ hz (by omega) p (by omega) hpq hc78 kl (r.getD 11 0).toNat (r.getD 12 0).toNat (by show p + 10 < l.length; omega) ((hat 10 _).trans hkl) (by show p + 11 < l.length; omega) (hat 11 _) (by show p + 12 < l.length; omega) (hat 12 _) hkb (by omega) (by omega) vl hv (by omega) _ _ ⟨(sealed t).toArray⟩ x1 x2 HSL (by rw [toN, toN, hsl']; simp)
    (by show p + 1 < l.length; omega) (flagL t) ((hat 1 _).trans (by unfold flagL; rw [hg1])) (by unfold flagL; exact (t.getD 1 0).toNat_lt) _ _ _ y1 y2 y3 _ HN _ HG
  refine h.mono fun e w' hh => ⟨?_, hh.2⟩
  rw [hh.1]
  have hpo : parseOk t = (decide (flagL t < 4) && goodN (numR ((t.drop 2).take 8)) (goneL t) (keyL t) (valL t)) := by unfold parseOk; rw [hgs]
  rw [← hpo]
  cases hok : parseOk t with
  | true =>
    rw [if_pos rfl, if_pos rfl, if_pos rfl, parseV_ok hok]
    have hn : numR ((t.drop 2).take 8) = seqL t := by
      rcases seq_is t (by omega) with h | ⟨h1, h2⟩
      · exact h
      · rw [hpo] at hok
        simp only [goodN, h1, Bool.false_and, Bool.and_false] at hok
        cases hok
    rw [hn]
    have e : (p : Int) + 13 + (kl : Int) + (vl : Int) + 4 = (p : Int) + ((17 + kl + vl : Nat) : Int) := by omega
    rw [e]; rfl
  | false => rfl
end Go.Proofs.YthlheamnfjjamaaDoor
