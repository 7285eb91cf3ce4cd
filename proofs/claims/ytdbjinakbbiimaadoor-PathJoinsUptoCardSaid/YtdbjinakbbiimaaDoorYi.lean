/- PathSplits and PathWithin, walked. -/
import Derived.Test.YtdbjinakbbiimaaDoorYh
namespace Go.Proofs.YtdbjinakbbiimaaDoor
open Go.RowKit
set_option linter.unusedVariables false

theorem parentP_err {p : List UInt8} (h : (Pt.splitP p).2 ≠ 0) : Pt.parentP p = ([], [], (Pt.splitP p).2) := by unfold Pt.parentP; rw [if_neg h]
theorem parentP_none {p : List UInt8} (h : (Pt.splitP p).2 = 0) (hx : (Pt.splitP p).1 = []) : Pt.parentP p = ([], [], 107) := by unfold Pt.parentP; rw [if_pos h, if_pos hx]
theorem parentP_some {p : List UInt8} {m : Nat} (h : (Pt.splitP p).2 = 0) (hm : (Pt.splitP p).1.length = m + 1) : Pt.parentP p = (Pt.joinT ((Pt.splitP p).1.take m), (Pt.splitP p).1.getD m [], 0) := by
  have hG := Pt.Good.of h
  unfold Pt.parentP
  rw [if_pos h]
  generalize (Pt.splitP p).1 = X at *
  have hX : X ≠ [] := fun e => by rw [e] at hm; simp at hm
  have hd : X.dropLast = X.take m := by rw [List.dropLast_eq_take]; congr 1; omega
  rw [if_neg hX, hd, Pt.good_join (hG.take m)]
  congr 2
  have : X.getLastD [] = X.getD (X.length - 1) [] := by
    rw [List.getLastD_eq_getLast?, List.getLast?_eq_getElem?, List.getD_eq_getElem?_getD]
  rw [this]; congr 1; omega
theorem toB_getD (X : List (List UInt8)) (m : Nat) (h : m < X.length) : (toB X).getD m ⟨#[]⟩ = ⟨(X.getD m []).toArray⟩ := by
  unfold toB
  rw [List.getD_eq_getElem?_getD, List.getElem?_map, List.getD_eq_getElem?_getD, List.getElem?_eq_getElem h]; rfl
theorem str_refl (q : ByteArray) : (q.toList == q.toList) = true := by simp
set_option maxRecDepth 100000 in
set_option maxHeartbeats 3200000 in
theorem pathSplits_any (p : ByteArray) (w : World) (hp : p.size ≤ maxLen) (hm : Ml w) :
    Calls Tryd.prog 3 #[.string p] w fun e w' => e = .returned (.bool true) ∧ Upd noBlock w w' := by
  obtain ⟨i0, hi0, hz0, hz1, hz2⟩ := strParts
  have hnot : ∀ (x : Bool) (w : World), (Op.unary .not (.bool x)).run Tryd.prog w = .ok (.bool (!x)) w := fun _ _ => rfl
  have hemp : (⟨#[]⟩ : ByteArray).toList.isEmpty = true := by rw [Lib.toList_data]; rfl
  have HSK := Lib.hid (fun W hW => speaks18_any W hW)
  have HSP := Lib.hid (fun W hW => split_any p W hW hp)
  have HSR := Lib.hid (fun W => rsplit_any p W hp)
  have HPA := Lib.hid (fun W hW => parent_any p W hW hp)
  unfold ParentA at HPA
  have HM := Lib.hid hm
  have HLP := Lib.hid (splitP_len p.data.toList)
  have HPE := Lib.hid (parentP_err (p := p.data.toList))
  have HPN := Lib.hid (parentP_none (p := p.data.toList))
  have HPS := Lib.hid (fun m => parentP_some (p := p.data.toList) (m := m))
  have HG : Hid ((Pt.splitP p.data.toList).2 = 0 → Pt.Good (Pt.splitP p.data.toList).1) := fun h => Pt.Good.of h
  generalize p.data.toList = P at *
  clear hm hp
  go_enter Tryd.func3, Tryd.ntmps3
  go_upto_region 5 with (first
    | (go_at_call 7; (with_reducible refine (HSK.out _ HM.out).mono ?_); rintro e w1 ⟨rfl, hu1⟩; have U1 := Lib.hid hu1; clear hu1)
    | (go_at_call 8; (with_reducible refine (HSP.out _ (HM.out.upd U1.out)).mono ?_); rintro e w2 ⟨a2, n2, c2, rfl, hs2, hc2, hu2, -⟩; have S2 := Lib.hid hs2; have U2 := Lib.hid (U1.out.trans hu2); have HL2 := Lib.hid hs2.len; clear hs2 hu2)
    | (go_at_call 9; (with_reducible refine (HSR.out _).mono ?_); rintro e w3 ⟨a3, n3, c3, rfl, hs3, hc3, hu3, -⟩; have S3 := Lib.hid hs3; have S2' := Lib.hid (S2.out.grow hu3 (Nat.le_refl _)); have B3 : Hid (w2.heap.size ≤ w3.heap.size) := hu3.size; have U3 := Lib.hid (U2.out.trans hu3); have HL3 := Lib.hid hs3.len; clear hs3 hu3))
  obtain ⟨x, hx⟩ : ∃ x, (Pt.splitP P).2 = x := ⟨_, rfl⟩
  obtain ⟨X, hX⟩ : ∃ X, (Pt.splitP P).1 = X := ⟨_, rfl⟩
  rw [hx] at HPE HPN HPS HG
  rw [hX] at HPN HPS HG HLP
  rw [hX] at S2 S2' S3 HL2 HL3
  rw [hx]
  clear hx hX
  have hn2 : n2 = X.length := by have := HL2.out; rw [toB_len] at this; exact this.symm
  have hn3 : n3 = X.length := by have := HL3.out; rw [toB_len] at this; exact this.symm
  obtain rfl : n2 = n3 := by omega
  have h16 : n2 ≤ 16 := by have := HLP.out; omega
  have HN := Lib.hid hn2
  clear hn2 hn3
  have HT := Lib.hid (texts_any a2 a3 n2 c2 w3.heap.size n2 c3 w3.heap.size (toB X) (toB X) w3 (S2'.out.more B3.out) S3.out (Nat.le_refl _) (Nat.le_refl _) (by omega) (by omega))
  rw [decide_eq_true (rfl : toB X = toB X)] at HT
  by_cases h0 : x = 0
  · subst h0
    rcases Nat.eq_zero_or_pos n2 with e0 | e0
    · subst e0
      have hv := HPN.out rfl (List.eq_nil_of_length_eq_zero HN.out.symm)
      rw [hv] at HPA
      clear hv
      go_wp2_with (first
        | (go_at_call 10; (with_reducible refine HT.out.mono ?_); rintro e w4 ⟨rfl, hu4⟩; have U4 := Lib.hid (U3.out.trans hu4); clear hu4)
        | (go_at_call 11; (with_reducible refine (HPA.out _ (HM.out.upd U4.out)).mono ?_); rintro e w5 ⟨rfl, hu5⟩; have U5 := Lib.hid (U4.out.trans hu5); clear hu5))
      go_ret
      exact ⟨rfl, U5.out⟩
    · obtain ⟨m, hm⟩ : ∃ m, n2 = m + 1 := ⟨n2 - 1, by omega⟩
      have hmn : m < n2 := by omega
      have hv := HPS.out m rfl (by rw [← HN.out]; exact hm)
      have e1 : (n2 : Int) - 1 = (m : Int) := by omega
      have hG := HG.out rfl
      have hGJ := Pt.good_join (hG.take m)
      have hsz := (hG.take m).size
      rw [hv] at HPA
      have hlo : ∀ w : World, (Instr.sliceAt 23 (.slice a3 n2 c3) none (some (.int .i64 (m : Int))) none).run Tryd.prog w = .ok (.slice (if c3 = 0 then a3 else a3.map (·.add 0)) m c3) w := fun w => run_slice_lo1 w 23 9 i0 Tryd.underlying23 hi0 a3 n2 c3 m (by omega) hc3
      have hhd : ∀ W, Upd noBlock w3 W → Calls Tryd.prog 12 #[.slice (if c3 = 0 then a3 else a3.map (·.add 0)) m c3] W (fun e w' => e = .returned (.tuple #[.string ⟨(Pt.joinT (X.take m)).toArray⟩, .int .i64 0]) ∧ Upd noBlock W w') := fun W hW => by
        have R1 := (S3.out.grow hW (Nat.le_refl _)).head (c := c3) (Nat.le_of_lt hmn)
        have hj := rjoin_any (if c3 = 0 then a3 else a3.map (·.add 0)) m c3 w3.heap.size ((toB X).take m) W R1 hW.size (by omega) (by
          rw [toB_take, toB_back]
          have : (Pt.joinT (X.take m)).length = (Lib.join (X.take m) [47]).length + 1 := rfl
          omega)
        rw [toB_take, toB_back] at hj
        unfold JoinA at hj
        rw [hGJ] at hj
        exact hj
      have HJ := Lib.hid hhd
      generalize (if c3 = 0 then a3 else a3.map (·.add 0)) = A1 at *
      obtain ⟨g, off, rfl, hg, hcl⟩ := S3.out.cell e0
      have hcm := hcl m hmn
      rw [toB_getD X m (by have := HN.out; omega)] at hcm
      have HCM := Lib.hid hcm
      clear hcl hcm hGJ hsz hG hm hv hhd
      generalize (⟨(X.getD m []).toArray⟩ : ByteArray) = r at *
      generalize (⟨(Pt.joinT (X.take m)).toArray⟩ : ByteArray) = q at *
      have er := str_refl r
      have eq := str_refl q
      go_wp2_with (first
        | (go_at_call 10; (with_reducible refine HT.out.mono ?_); rintro e w4 ⟨rfl, hu4⟩; have V4 := Lib.hid hu4; have U4 := Lib.hid (U3.out.trans hu4); clear hu4)
        | (go_at_call 11; (with_reducible refine (HPA.out _ (HM.out.upd U4.out)).mono ?_); rintro e w5 ⟨rfl, hu5⟩; have V5 := Lib.hid (V4.out.trans hu5); have U5 := Lib.hid (U4.out.trans hu5); clear hu5)
        | (go_at_call 12; (with_reducible refine (HJ.out _ V5.out).mono ?_); rintro e w6 ⟨rfl, hu6⟩; have U6 := Lib.hid (U5.out.trans hu6); have c6 := upd_cell (V5.out.trans hu6) HCM.out; clear hu6))
      go_ret
      exact ⟨rfl, U6.out⟩
  · have hv := HPE.out h0
    rw [hv] at HPA
    have hx0 : (x != 0) = true := by rw [bne_iff_ne]; exact h0
    have hx1 : (x == 0) = false := beq_eq_false_iff_ne.2 h0
    clear hv h0
    go_wp2_with (first
      | (go_at_call 10; (with_reducible refine HT.out.mono ?_); rintro e w4 ⟨rfl, hu4⟩; have U4 := Lib.hid (U3.out.trans hu4); clear hu4)
      | (go_at_call 11; (with_reducible refine (HPA.out _ (HM.out.upd U4.out)).mono ?_); rintro e w5 ⟨rfl, hu5⟩; have U5 := Lib.hid (U4.out.trans hu5); clear hu5))
    go_ret
    exact ⟨rfl, U5.out⟩
end Go.Proofs.YtdbjinakbbiimaaDoor
