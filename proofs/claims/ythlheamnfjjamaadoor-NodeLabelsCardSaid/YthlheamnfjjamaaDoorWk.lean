/- Labels, plain; node.GetLabel whole. -/
import Derived.Test.YthlheamnfjjamaaDoorWg
import Derived.Test.YthlheamnfjjamaaDoorWh
import Derived.Test.YthlheamnfjjamaaDoorWd
namespace Go.Proofs.YthlheamnfjjamaaDoor
open Go.RowKit Cm
attribute [local irreducible] beZ valN Cm.shs Cm.nxt Cm.reg Cm.ext
set_option linter.unusedVariables false

theorem rawLab_length (k : Nat) (g n t : Int) : (rawLab k g n t).length = 25 := by unfold rawLab; simp only [List.length_append, List.length_singleton, beZ_length]
theorem lab_parts (k : Nat) (g n t : Int) (x : List UInt8) (hk : k < 256) (wg : (Lit.int .i64 g).wf = true) (wn : (Lit.int .i64 n).wf = true) (wt : (Lit.int .i64 t).wf = true) :
    (sealed (rawLab k g n t) ++ x).take 25 = rawLab k g n t ∧ (sealed (rawLab k g n t) ++ x).take 29 = sealed (rawLab k g n t) ∧ fstL (sealed (rawLab k g n t) ++ x) = k ∧ genL (sealed (rawLab k g n t) ++ x) = g ∧ numbL (sealed (rawLab k g n t) ++ x) = n ∧ totL (sealed (rawLab k g n t) ++ x) = t := by
  have hl := rawLab_length k g n t
  have hs := sealed_length (rawLab k g n t)
  have e1 : (sealed (rawLab k g n t) ++ x).take 25 = rawLab k g n t := by
    show ((rawLab k g n t ++ slb (ext 0 (rawLab k g n t))) ++ x).take 25 = _
    rw [List.append_assoc, List.take_left' hl]
  have e2 : (sealed (rawLab k g n t) ++ x).take 29 = sealed (rawLab k g n t) := List.take_left' (by omega)
  have ed : (rawLab k g n t).drop 1 = beZ 8 g ++ (beZ 8 n ++ beZ 8 t) := rfl
  have l8 := fun z => beZ_length 8 z
  refine ⟨e1, e2, ?_, ?_, ?_, ?_⟩
  · show ((rawLab k g n t ++ slb (ext 0 (rawLab k g n t)) ++ x).getD 0 0).toNat = k
    show (UInt8.ofNat k).toNat = k
    rw [UInt8.toNat_ofNat']; omega
  · unfold genL splN
    rw [e1, ed, Nat.zero_mul, List.drop_zero, List.take_left' (l8 g)]
    exact wrap_beZ g wg
  · unfold numbL splN
    rw [e1, ed, Nat.one_mul, List.drop_left' (l8 g), List.take_left' (l8 n)]
    exact wrap_beZ n wn
  · unfold totL splN
    rw [e1, ed, show 2 * 8 = 8 + 8 by rfl, ← List.drop_drop, List.drop_left' (l8 g), List.drop_left' (l8 n), List.take_of_length_le (by rw [l8]; exact Nat.le_refl _)]
    exact wrap_beZ t wt
theorem getL_put (k : Nat) (g n t : Int) (x : List UInt8) (hk : k < 256) (wg : (Lit.int .i64 g).wf = true) (wn : (Lit.int .i64 n).wf = true) (wt : (Lit.int .i64 t).wf = true) (hg : goodLab k g n t = true) :
    getLok (sealed (rawLab k g n t) ++ x) = true ∧ getLV (sealed (rawLab k g n t) ++ x) = labV k g n t := by
  obtain ⟨p1, p2, p3, p4, p5, p6⟩ := lab_parts k g n t x hk wg wn wt
  have hl := rawLab_length k g n t
  have hs := sealed_length (rawLab k g n t)
  have h1 : getLok (sealed (rawLab k g n t) ++ x) = true := by
    unfold getLok sumLab
    rw [p1, p2, p3, p4, p5, p6, hg, decide_eq_true (by rw [List.length_append]; omega)]
    have : (sealed (rawLab k g n t)).drop 25 = slb (ext 0 (rawLab k g n t)) := List.drop_left' hl
    rw [this, decide_eq_true rfl]; rfl
  refine ⟨h1, ?_⟩
  unfold getLV
  rw [if_pos h1, p3, p4, p5, p6]
theorem cut24 (u : List UInt8) (h : u.length = 24) : u.take 8 ++ ((u.drop 8).take 8 ++ (u.drop 16).take 8) = u := by
  have a : (u.drop 16).take 8 = u.drop 16 := List.take_of_length_le (by rw [List.length_drop]; omega)
  have b : (u.drop 8).take 8 ++ u.drop 16 = u.drop 8 := by
    have := List.take_append_drop 8 (u.drop 8)
    rw [List.drop_drop] at this; exact this
  rw [a, b, List.take_append_drop]
theorem getL_back (l : List UInt8) (h : getLok l = true) : goodLab (fstL l) (genL l) (numbL l) (totL l) = true ∧ 29 ≤ l.length ∧ sealed (rawLab (fstL l) (genL l) (numbL l) (totL l)) = l.take 29 := by
  unfold getLok at h
  simp only [Bool.and_eq_true, decide_eq_true_eq] at h
  obtain ⟨h29, hsum, hg⟩ := h
  refine ⟨hg, h29, ?_⟩
  have hg' := hg
  unfold goodLab at hg'
  simp only [Bool.and_eq_true, decide_eq_true_eq] at hg'
  obtain ⟨⟨_, _⟩, ga, gb, gc⟩ := hg'
  have lt : (l.take 25).length = 25 := by rw [List.length_take]; omega
  have part : ∀ i, i < 3 → okN (splN 8 ((l.take 25).drop 1) i) = true → beZ 8 (splN 8 ((l.take 25).drop 1) i) = (((l.take 25).drop 1).drop (i * 8)).take 8 := fun i hi ho => by
    have l8 : ((((l.take 25).drop 1).drop (i * 8)).take 8).length = 8 := by rw [List.length_take, List.length_drop, List.length_drop, lt]; omega
    unfold splN at ho ⊢
    obtain ⟨o1, o2⟩ := okN_val8 _ l8
    rw [o1, decide_eq_true_eq] at ho
    rw [o2 ho]
    have := beZ_valN ((((l.take 25).drop 1).drop (i * 8)).take 8)
    rw [l8] at this; exact this
  have q0 := part 0 (by omega) ga
  have q1 := part 1 (by omega) gb
  have q2 := part 2 (by omega) gc
  have hraw : rawLab (fstL l) (genL l) (numbL l) (totL l) = l.take 25 := by
    unfold rawLab genL numbL totL
    rw [q0, q1, q2, Nat.zero_mul, List.drop_zero, Nat.one_mul]
    have f1 : [UInt8.ofNat (fstL l)] = (l.take 25).take 1 := by
      match l, h29 with
      | c :: r, _ =>
        show [UInt8.ofNat c.toNat] = [c]
        rw [UInt8.ofNat_toNat]
    rw [f1]
    rw [show 2 * 8 = 16 from rfl, cut24 ((l.take 25).drop 1) (by rw [List.length_drop, lt]), List.take_append_drop]
  rw [hraw]
  have e1 : ext 0 (l.take 25) = ext 0 (l.take 25) := rfl
  unfold sumLab at hsum
  rw [decide_eq_true_eq] at hsum
  show l.take 25 ++ slb (ext 0 (l.take 25)) = _
  rw [← hsum]
  have : (l.take 29).take 25 = l.take 25 := by rw [List.take_take]; rfl
  rw [← this, List.take_append_drop]
theorem fstL_lt (l : List UInt8) : fstL l < 256 := UInt8.toNat_lt _
theorem getLabel_any (l : List UInt8) (w : World) (hl : l.length ≤ 9223372036854775807) (hT : Tab w) :
    Calls Tryd.prog 25 #[.string ⟨l.toArray⟩] w fun e w' => e = .returned (.tuple #[getLV l, .bool (getLok l)]) ∧ Upd noBlock w w' := by
  have hz : (⟨l.toArray⟩ : ByteArray).size = l.length := rfl
  have HT : Hid (∀ W, Upd noBlock w W → Tab W) := fun W h => hT.upd h
  by_cases h29 : 29 ≤ l.length
  · have hx : (⟨l.toArray⟩ : ByteArray).extract 0 29 = ⟨(l.take 29).toArray⟩ := by rw [ext_str, List.drop_zero]
    have l29 : (l.take 29).length = 29 := by rw [List.length_take]; omega
    have l25 : (l.take 25).length = 25 := by rw [List.length_take]; omega
    have ht : (l.take 29).take 25 = l.take 25 := by rw [List.take_take]; rfl
    have hO := fun W hW => open_four ⟨(l.take 29).toArray⟩ 25 (sumLab l) W l29 (by show (l.take 29).length ≤ _; rw [l29]; decide) hW (by show decide ((l.take 29).drop 25 = slb (ext 0 ((l.take 29).take 25))) = _; rw [ht]; rfl)
    cases hsum : sumLab l with
    | false =>
      rw [hsum] at hO
      have e1 : getLok l = false := by unfold getLok; rw [hsum, Bool.false_and, Bool.and_false]
      have e2 : getLV l = labV 0 0 0 0 := by unfold getLV; rw [e1]; rfl
      rw [e1, e2]
      exact getLabel_sum _ _ _ l.length w hz h29 hl hx HT (Lib.hid hO)
    | true =>
      rw [hsum] at hO
      have hxt : (⟨(l.take 29).toArray⟩ : ByteArray).extract 0 25 = ⟨(l.take 25).toArray⟩ := by rw [ext_str, List.drop_zero, Nat.sub_zero, ht]
      rw [if_pos rfl, hxt] at hO
      have hx2 : (⟨(l.take 25).toArray⟩ : ByteArray).extract 1 25 = ⟨((l.take 25).drop 1).toArray⟩ := by rw [ext_str, List.take_of_length_le (by rw [List.length_drop, l25]; omega)]
      have h0 : 0 < (⟨(l.take 25).toArray⟩ : ByteArray).size := by show 0 < (l.take 25).length; omega
      have hm : ((⟨(l.take 25).toArray⟩ : ByteArray)[0]'h0).toNat = fstL l := by
        show ((l.take 25)[0]'(by omega)).toNat = _
        unfold fstL
        rw [List.getElem_take, List.getD_eq_getElem?_getD, List.getElem?_eq_getElem (by omega : 0 < l.length)]; rfl
      have HS := Lib.hid (fun W => SplitA 8 3 8 rfl ((l.take 25).drop 1) W (by omega) (by omega) (by rw [List.length_drop, l25]) (by omega) (by omega))
      have HV := Lib.hid (fun W => validLab_any (fstL l) (genL l) (numbL l) (totL l) W (fstL_lt l))
      have e1 : getLok l = goodLab (fstL l) (genL l) (numbL l) (totL l) := by unfold getLok; rw [hsum, decide_eq_true h29, Bool.true_and, Bool.true_and]
      cases hok : goodLab (fstL l) (genL l) (numbL l) (totL l) with
      | true =>
        rw [hok] at e1 HV
        have e2 : getLV l = labV (fstL l) (genL l) (numbL l) (totL l) := by unfold getLV; rw [e1]; rfl
        rw [e1, e2]
        unfold labV
        exact getLabel_open _ _ _ _ ((l.take 25).drop 1) (fstL l) (genL l) (numbL l) (totL l) true _ _ _ _ l.length w hz h29 hl hx HT (Lib.hid hO) l25 hx2 h0 hm HS (by unfold genL; rfl) (by unfold numbL; rfl) (by unfold totL; rfl) HV (fun _ => ⟨rfl, rfl, rfl, rfl⟩) (fun h => by cases h)
      | false =>
        rw [hok] at e1 HV
        have e2 : getLV l = labV 0 0 0 0 := by unfold getLV; rw [e1]; rfl
        rw [e1, e2]
        unfold labV
        exact getLabel_open _ _ _ _ ((l.take 25).drop 1) (fstL l) (genL l) (numbL l) (totL l) false _ _ _ _ l.length w hz h29 hl hx HT (Lib.hid hO) l25 hx2 h0 hm HS (by unfold genL; rfl) (by unfold numbL; rfl) (by unfold totL; rfl) HV (fun h => by cases h) (fun _ => ⟨rfl, rfl, rfl, rfl⟩)
  · have e1 : getLok l = false := by unfold getLok; rw [decide_eq_false h29, Bool.false_and]
    have e2 : getLV l = labV 0 0 0 0 := by unfold getLV; rw [e1]; rfl
    rw [e1, e2]
    exact getLabel_short _ l.length w hz (by omega)
end Go.Proofs.YthlheamnfjjamaaDoor
