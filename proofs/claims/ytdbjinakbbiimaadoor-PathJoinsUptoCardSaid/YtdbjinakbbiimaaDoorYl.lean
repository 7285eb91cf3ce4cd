/- PathUp, walked. -/
import Derived.Test.YtdbjinakbbiimaaDoorYk
namespace Go.Proofs.YtdbjinakbbiimaaDoor
open Go.RowKit
set_option linter.unusedVariables false

theorem joinT_inj {xs ys : List (List UInt8)} (hx : Pt.Good xs) (hy : Pt.Good ys) (h : Pt.joinT xs = Pt.joinT ys) : xs = ys := by
  have h1 := Pt.good_split hx
  rw [h, Pt.good_split hy] at h1
  exact (congrArg Prod.fst h1).symm
theorem within_up {X : List (List UInt8)} (hG : Pt.Good X) (k : Nat) (hk : k < X.length) : Pt.withinP (Pt.joinT (X.take (k + 1))) (Pt.joinT (X.take k)) = true ∧ Pt.withinP (Pt.joinT (X.take k)) (Pt.joinT (X.take (k + 1))) = false := by
  have h1 := Pt.good_split (hG.take (k + 1))
  have h2 := Pt.good_split (hG.take k)
  constructor
  · unfold Pt.withinP
    rw [h1, h2]
    simp only [decide_true, Bool.true_and, decide_eq_true_eq]
    rw [List.take_take, List.length_take]
    congr 1; omega
  · unfold Pt.withinP
    rw [h1, h2]
    simp only [decide_true, Bool.true_and, decide_eq_false_iff_not]
    intro e
    have := congrArg List.length e
    rw [List.length_take, List.length_take, List.length_take] at this
    omega
theorem take_snocL (X : List (List UInt8)) (k : Nat) (h : k < X.length) : X.take (k + 1) = X.take k ++ [X.getD k []] := by
  rw [List.getD_eq_getElem?_getD, List.getElem?_eq_getElem h]; simp
set_option maxRecDepth 100000 in
set_option maxHeartbeats 6400000 in
theorem pathUp_any (p : ByteArray) (w : World) (hp : p.size ≤ maxLen) (hm : Ml w) :
    Calls Tryd.prog 6 #[.string p] w fun e w' => e = .returned (.bool true) ∧ Upd noBlock w w' := by
  obtain ⟨i0, hi0, hz0, hz1, hz2⟩ := strParts
  have hnot : ∀ (x : Bool) (w : World), (Op.unary .not (.bool x)).run Tryd.prog w = .ok (.bool (!x)) w := fun _ _ => rfl
  have HSK := Lib.hid (fun W hW => speaks18_any W hW)
  have HSP := Lib.hid (fun W hW => split_any p W hW hp)
  have HPA := Lib.hid (fun W hW => parent_any p W hW hp)
  unfold ParentA at HPA
  have HM := Lib.hid hm
  have HLP := Lib.hid (splitP_len p.data.toList)
  have HPE := Lib.hid (parentP_err (p := p.data.toList))
  have HBAD := Lib.hid (Pt.splitP_bad (p := p.data.toList))
  have HG : Hid ((Pt.splitP p.data.toList).2 = 0 → Pt.Good (Pt.splitP p.data.toList).1 ∧ Pt.joinT (Pt.splitP p.data.toList).1 = p.data.toList) := fun h => Pt.splitP_good h
  have HPP : Hid (p = ⟨p.data.toList.toArray⟩) := rfl
  generalize p.data.toList = P at *
  clear hm hp
  go_enter Tryd.func6, Tryd.ntmps6
  go_upto_region 4 with (first
    | (go_at_call 7; (with_reducible refine (HSK.out _ HM.out).mono ?_); rintro e w1 ⟨rfl, hu1⟩; have U1 := Lib.hid hu1; clear hu1)
    | (go_at_call 8; (with_reducible refine (HSP.out _ (HM.out.upd U1.out)).mono ?_); rintro e w2 ⟨a2, n2, c2, rfl, hs2, hc2, hu2, -⟩; have U2 := Lib.hid (U1.out.trans hu2); have HL2 := Lib.hid hs2.len; clear hs2 hu2))
  obtain ⟨x, hx⟩ : ∃ x, (Pt.splitP P).2 = x := ⟨_, rfl⟩
  rw [hx] at HPE HG HBAD
  rw [hx]
  clear hx
  by_cases h0 : x = 0
  · subst h0
    obtain ⟨hG, hJ⟩ := HG.out rfl
    generalize (Pt.splitP P).1 = X at *
    have hn2 : X.length = n2 := by have := HL2.out; rw [toB_len] at this; exact this
    have h16 : n2 ≤ 16 := by have := HLP.out; omega
    have HGX := Lib.hid hG
    have HPJ : Hid (p = ⟨(Pt.joinT X).toArray⟩) := by show p = _; rw [hJ]; exact HPP.out
    have HXN := Lib.hid hn2
    clear hG hJ HSP HPA HPE HBAD HG HPP HL2 HLP hn2
    have hp0 := HPJ.out
    subst hp0
    clear HPJ
    have HALL : Hid (X.take n2 = X) := List.take_of_length_le (by rw [HXN.out]; exact Nat.le_refl _)
    rw [← HALL.out]
    go_upto_region 8 with fail
    go_loopw [0, 8] (fun s0 i wr => ∃ k : Nat, k ≤ n2 ∧ i = .int .i64 (k : Int) ∧ s0 = .string ⟨(Pt.joinT (X.take k)).toArray⟩ ∧ Hid (Upd noBlock w wr)) (fun _ i _ => (intOf i).toNat)
    case atStart => exact ⟨n2, Nat.le_refl _, rfl, rfl, U2⟩
    case round =>
      clear U2
      obtain ⟨k, hk, rfl, rfl, HU⟩ := hrel
      by_cases k0 : 0 < k
      · obtain ⟨m, hm⟩ : ∃ m, k = m + 1 := ⟨k - 1, by omega⟩
        have hmX : m < X.length := by rw [HXN.out]; omega
        have hsz : ∀ j, (⟨(Pt.joinT (X.take j)).toArray⟩ : ByteArray).size ≤ 256 := fun j => by
          have h1 := (HGX.out.take j).size
          have h2 : (⟨(Pt.joinT (X.take j)).toArray⟩ : ByteArray).size = (Pt.joinT (X.take j)).length := by simp [ByteArray.size]
          omega
        have hdl : ∀ j, (⟨(Pt.joinT (X.take j)).toArray⟩ : ByteArray).data.toList = Pt.joinT (X.take j) := fun j => rfl
        have hsk := Pt.good_split (HGX.out.take (m + 1))
        have hsm := Pt.good_split (HGX.out.take m)
        have hpv : Pt.parentP (Pt.joinT (X.take (m + 1))) = (Pt.joinT (X.take m), X.getD m [], 0) := by
          have h9 := parentP_some (p := Pt.joinT (X.take (m + 1))) (m := m) (by rw [hsk]) (by rw [hsk]; show (X.take (m + 1)).length = _; rw [List.length_take]; omega)
          rw [hsk] at h9
          rw [h9]
          show (Pt.joinT ((X.take (m + 1)).take m), (X.take (m + 1)).getD m [], (0 : Int)) = _
          rw [List.take_take, show min m (m + 1) = m by omega, List.getD_eq_getElem?_getD, List.getElem?_take, if_pos (by omega), ← List.getD_eq_getElem?_getD]
        have HPA : Hid (∀ W, Ml W → Calls Tryd.prog 11 #[.string ⟨(Pt.joinT (X.take k)).toArray⟩] W fun e w' => e = .returned (.tuple #[.string ⟨(Pt.joinT (X.take m)).toArray⟩, .string ⟨(X.getD m []).toArray⟩, .int .i64 0]) ∧ Upd noBlock W w') := fun W hW => by
          have h9 := parent_any ⟨(Pt.joinT (X.take k)).toArray⟩ W hW (by have := hsz k; unfold maxLen; omega)
          unfold ParentA at h9
          rw [hdl, hm, hpv] at h9
          rw [hm]
          exact h9
        have HSP : Hid (∀ W, Ml W → Calls Tryd.prog 8 #[.string ⟨(Pt.joinT (X.take m)).toArray⟩] W fun e w' => ∃ a c, e = .returned (.tuple #[.slice a m c, .int .i64 0]) ∧ OwnS w' W.heap.size 9 (.slice a m c) (toB (X.take m)) ∧ Upd noBlock W w') := fun W hW => (split_any ⟨(Pt.joinT (X.take m)).toArray⟩ W hW (by have := hsz m; unfold maxLen; omega)).mono fun e w' ⟨a, n, c, he, hs, hc, hu, ho⟩ => by
          rw [hdl, hsm] at he ho hs
          have hnm : n = m := by
            have h1 := hs.len
            rw [toB_len] at h1
            have h2 : (X.take m).length = m := by rw [List.length_take]; omega
            exact h1.symm.trans h2
          subst hnm
          exact ⟨a, c, he, ho, hu⟩
        have hpart : ∀ y ∈ toB (X.take k), y.size ≤ maxLen := fun y hy => by
          obtain ⟨z, hz, rfl⟩ := List.mem_map.1 hy
          have h1 := HGX.out.short
          rw [List.any_eq_false] at h1
          have h2 := h1 z (List.mem_of_mem_take hz)
          unfold Pt.long at h2
          have h3 : ¬ 32 < z.length := by simpa using h2
          have h4 : (⟨z.toArray⟩ : ByteArray).size = z.length := by simp [ByteArray.size]
          unfold maxLen; omega
        have HJN : Hid (∀ W B v, Ml W → OwnS W B 9 v (toB (X.take k)) → Calls Tryd.prog 13 #[v] W fun e w' => e = .returned (.tuple #[.string ⟨(Pt.joinT (X.take k)).toArray⟩, .int .i64 0]) ∧ Upd noBlock W w') := fun W B v hW ho => by
          obtain ⟨a, c, rfl, hs, -⟩ := ho.sl hpart
          have hc := own_cap ho
          have hlen : (toB (X.take k)).length ≤ 16 := by rw [toB_len, List.length_take]; omega
          have h9 := join_any a _ c W.heap.size (toB (X.take k)) W hW hs (Nat.le_refl _) hc (by omega) (by
            rw [toB_back]
            have h1 := (HGX.out.take k).size
            have h2 : (Pt.joinT (X.take k)).length = (Lib.join (X.take k) [47]).length + 1 := rfl
            omega)
          rw [toB_back] at h9
          unfold JoinA at h9
          rw [Pt.good_join (HGX.out.take k)] at h9
          exact h9
        obtain ⟨hw1, hw2⟩ := within_up HGX.out m hmX
        rw [← hm] at hw1 hw2
        have HW1 : Hid (∀ W, Ml W → Calls Tryd.prog 14 #[.string ⟨(Pt.joinT (X.take k)).toArray⟩, .string ⟨(Pt.joinT (X.take m)).toArray⟩] W fun e w' => e = .returned (.bool true) ∧ Upd noBlock W w') := fun W hW => by
          have h9 := within_any ⟨(Pt.joinT (X.take k)).toArray⟩ ⟨(Pt.joinT (X.take m)).toArray⟩ W hW (by have := hsz k; unfold maxLen; omega) (by have := hsz m; unfold maxLen; omega)
          rw [hdl, hdl, hw1] at h9
          exact h9
        have HW2 : Hid (∀ W, Ml W → Calls Tryd.prog 14 #[.string ⟨(Pt.joinT (X.take m)).toArray⟩, .string ⟨(Pt.joinT (X.take k)).toArray⟩] W fun e w' => e = .returned (.bool false) ∧ Upd noBlock W w') := fun W hW => by
          have h9 := within_any ⟨(Pt.joinT (X.take m)).toArray⟩ ⟨(Pt.joinT (X.take k)).toArray⟩ W hW (by have := hsz m; unfold maxLen; omega) (by have := hsz k; unfold maxLen; omega)
          rw [hdl, hdl, hw2] at h9
          exact h9
        have HTL : Hid (toB (X.take k) = toB (X.take m) ++ [⟨(X.getD m []).toArray⟩]) := by
          show _ = _
          rw [hm, take_snocL X m hmX]
          unfold toB; rw [List.map_append]; rfl
        have HML : Hid ((toB (X.take m)).length = m) := by show _ = _; rw [toB_len, List.length_take]; omega
        have hrz : (⟨(X.getD m []).toArray⟩ : ByteArray).size ≤ maxLen := hpart _ (by rw [HTL.out]; simp)
        have e1 : (k : Int) - 1 = (m : Int) := by omega
        have hmk : m < k := by omega
        clear hsz hdl hsk hsm hpv hpart hw1 hw2 hmX
        generalize (⟨(X.getD m []).toArray⟩ : ByteArray) = r at *
        generalize toB (X.take k) = Tk at *
        generalize toB (X.take m) = Tm at *
        obtain ⟨q, hq⟩ : ∃ q : ByteArray, ⟨(Pt.joinT (X.take m)).toArray⟩ = q := ⟨_, rfl⟩
        have HQ := Lib.hid hq
        rw [hq] at HPA HSP HW1 HW2
        clear hq hm
        generalize (⟨(Pt.joinT (X.take k)).toArray⟩ : ByteArray) = s at *
        have es := str_refl s
        have HRZ := Lib.hid hrz
        clear hrz
        go_wp2_with (first
          | (go_at_call 11; (with_reducible refine (HPA.out _ (HM.out.upd HU.out)).mono ?_); rintro e w3 ⟨rfl, hu3⟩; have U3 := Lib.hid (HU.out.trans hu3); clear hu3)
          | (go_at_call 8; (with_reducible refine (HSP.out _ (HM.out.upd U3.out)).mono ?_); rintro e w4 ⟨a4, c4, rfl, ho4, hu4⟩; have O4 := Lib.hid ho4; have B3 : Hid (w3.heap.size ≤ w4.heap.size) := hu4.size; have U4 := Lib.hid (U3.out.trans hu4); have O5 := Lib.hid (O4.out.grow ((Upd.refl noBlock w4).alloc (.cells #[.string r] 9))); have U5 := Lib.hid (U4.out.alloc (.cells #[.string r] 9)); have I5 := Lib.hid (Row1.one w4 9 (.string r)); clear ho4 hu4)
          | (at_builtin; refine wpList_append_vals _ rfl (.tmp 57) (.tmp 59) _ rfl w3.heap.size 9 i0 _ 16 Tryd.underlying23 hi0 hz0 hz1 hz2 rfl _ Tm.length (Tm.map Value.string) rfl O5.out (w4.heap.size + 1) (some ⟨w4.heap.size, 0, none⟩) 1 1 [.string r] rfl I5.out (by intro u hu; simp at hu; subst hu; rfl) (by have := HML.out; simp only [maxLen]; omega) (by have := HML.out; omega) (by have := B3.out; simp; omega) ?_; intro v6 w6 hown6 hg6 _; have O6 := Lib.hid (OwnS.snoc hown6); have U6 := Lib.hid (upd_grown_own U5.out hg6 (fun i hi => Nat.le_trans U3.out.size (O5.out.lt i hi).1)); rw [← HTL.out] at O6; clear hown6 hg6)
          | (go_at_call 13; (with_reducible refine (HJN.out _ _ _ (HM.out.upd U6.out) O6.out).mono ?_); rintro e w7 ⟨rfl, hu7⟩; have U7 := Lib.hid (U6.out.trans hu7); clear hu7)
          | (go_at_call 14; (with_reducible refine (HW1.out _ (HM.out.upd U7.out)).mono ?_); rintro e w8 ⟨rfl, hu8⟩; have U8 := Lib.hid (U7.out.trans hu8); clear hu8)
          | (go_at_call 14; (with_reducible refine (HW2.out _ (HM.out.upd U8.out)).mono ?_); rintro e w9 ⟨rfl, hu9⟩; have U9 := Lib.hid (U8.out.trans hu9); clear hu9))
        go_roundw
        case rel => exact ⟨m, by omega, rfl, by rw [HQ.out], U9⟩
        case measure => simp [intOf] <;> omega
      · obtain rfl : k = 0 := by omega
        have h1 : ((⟨(Pt.joinT (X.take 0)).toArray⟩ : ByteArray).toList == [47]) = true := by rw [Lib.toList_data]; rfl
        generalize (⟨(Pt.joinT (X.take 0)).toArray⟩ : ByteArray) = s at *
        go_wp2_with fail
        go_ret
        exact ⟨rfl, HU.out⟩
  · have hv := HPE.out h0
    rw [hv] at HPA
    have hb := HBAD.out h0
    have hn2 : n2 = 0 := by have := HL2.out; rw [hb, toB_len] at this; simpa using this.symm
    subst hn2
    have hx0 : (x != 0) = true := by rw [bne_iff_ne]; exact h0
    have hx1 : (x == x) = true := beq_self_eq_true x
    clear hv h0 hb
    go_wp2_with (go_at_call 11; (with_reducible refine (HPA.out _ (HM.out.upd U2.out)).mono ?_); rintro e w5 ⟨rfl, hu5⟩; have U5 := Lib.hid (U2.out.trans hu5); clear hu5)
    go_ret
    exact ⟨rfl, U5.out⟩
theorem pathUp_walk (p : ByteArray) (w : World) (hp : p.size ≤ 140737488351232) (hm : Ml w) :
    Calls Tryd.prog 6 #[.string p] w fun e w' => e = .returned (.bool true) ∧ Below w.heap.size w w' :=
  (pathUp_any p w (by unfold maxLen; omega) hm).mono fun _ _ ⟨h, hu⟩ => ⟨h, hu.below (fun _ _ h => h)⟩
end Go.Proofs.YtdbjinakbbiimaaDoor
