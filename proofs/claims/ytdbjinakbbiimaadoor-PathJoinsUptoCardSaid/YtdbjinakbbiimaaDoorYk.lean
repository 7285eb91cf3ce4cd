/- PathWithin, walked. -/
import Derived.Test.YtdbjinakbbiimaaDoorYj
namespace Go.Proofs.YtdbjinakbbiimaaDoor
open Go.RowKit
set_option linter.unusedVariables false

theorem within_trans {P Q R : List UInt8} (h1 : Pt.withinP P Q = true) (h2 : Pt.withinP Q R = true) : Pt.withinP P R = true := by
  unfold Pt.withinP at *
  simp only [Bool.and_eq_true, decide_eq_true_eq] at *
  obtain ⟨a1, a2, a3⟩ := h1
  obtain ⟨b1, b2, b3⟩ := h2
  refine ⟨a1, b2, ?_⟩
  generalize (Pt.splitP R).1 = Z at *
  generalize (Pt.splitP Q).1 = Y at *
  generalize (Pt.splitP P).1 = X at *
  have hl : Z.length ≤ Y.length := by
    have := congrArg List.length b3
    rw [List.length_take] at this
    omega
  conv => lhs; rw [b3, a3]
  rw [List.take_take]
  congr 1
  omega
set_option maxRecDepth 100000 in
set_option maxHeartbeats 3200000 in
theorem pathWithin_any (p q r : ByteArray) (w : World) (hp : p.size ≤ maxLen) (hq : q.size ≤ maxLen) (hr : r.size ≤ maxLen) (hm : Ml w) :
    Calls Tryd.prog 5 #[.string p, .string q, .string r] w fun e w' => e = .returned (.bool true) ∧ Upd noBlock w w' := by
  obtain ⟨i0, hi0, hz0, hz1, hz2⟩ := strParts
  have hnot : ∀ (x : Bool) (w : World), (Op.unary .not (.bool x)).run Tryd.prog w = .ok (.bool (!x)) w := fun _ _ => rfl
  have HSK := Lib.hid (fun W hW => speaks18_any W hW)
  have HSP := Lib.hid (fun W => rsplit_any p W hp)
  have HSQ := Lib.hid (fun W => rsplit_any q W hq)
  have HW1 := Lib.hid (fun W hW => within_any p q W hW hp hq)
  have HW2 := Lib.hid (fun W hW => within_any q r W hW hq hr)
  have HW3 := Lib.hid (fun W hW => within_any p r W hW hp hr)
  have HTR := Lib.hid (within_trans (P := p.data.toList) (Q := q.data.toList) (R := r.data.toList))
  have HM := Lib.hid hm
  have HV := Lib.hid (within_val p.data.toList q.data.toList)
  have HN : Hid ((Pt.splitP p.data.toList).2 ≠ 0 ∨ (Pt.splitP q.data.toList).2 ≠ 0 → Pt.withinP p.data.toList q.data.toList = false) := by
    intro h
    unfold Pt.withinP
    rcases h with h | h
    · rw [decide_eq_false h, Bool.false_and]
    · rw [decide_eq_false h, Bool.false_and, Bool.and_false]
  have HLP := Lib.hid (splitP_len p.data.toList)
  have HLQ := Lib.hid (splitP_len q.data.toList)
  generalize p.data.toList = P at *
  generalize q.data.toList = Q at *
  generalize r.data.toList = R at *
  generalize Pt.withinP P Q = W1 at *
  generalize Pt.withinP Q R = W2 at *
  generalize Pt.withinP P R = W3 at *
  clear hm hp hq hr
  go_enter Tryd.func5, Tryd.ntmps5
  go_upto_region 5 with (first
    | (go_at_call 7; (with_reducible refine (HSK.out _ HM.out).mono ?_); rintro e w1 ⟨rfl, hu1⟩; have U1 := Lib.hid hu1; clear hu1)
    | (go_at_call 9; (with_reducible refine (HSP.out _).mono ?_); rintro e w2 ⟨a2, n2, c2, rfl, hs2, hc2, hu2, -⟩; have S2 := Lib.hid hs2; have U2 := Lib.hid (U1.out.trans hu2); have HL2 := Lib.hid hs2.len; clear hs2 hu2)
    | (go_at_call 9; (with_reducible refine (HSQ.out _).mono ?_); rintro e w3 ⟨a3, n3, c3, rfl, hs3, hc3, hu3, -⟩; have S3 := Lib.hid hs3; have S2' := Lib.hid (S2.out.grow hu3 (Nat.le_refl _)); have B3 : Hid (w2.heap.size ≤ w3.heap.size) := hu3.size; have U3 := Lib.hid (U2.out.trans hu3); have HL3 := Lib.hid hs3.len; clear hs3 hu3))
  obtain ⟨x, hx⟩ : ∃ x, (Pt.splitP P).2 = x := ⟨_, rfl⟩
  obtain ⟨y, hy⟩ : ∃ y, (Pt.splitP Q).2 = y := ⟨_, rfl⟩
  rw [hx, hy] at HV HN
  rw [hx, hy]
  clear hx hy
  generalize (Pt.splitP P).1 = X at *
  generalize (Pt.splitP Q).1 = Y at *
  have hn2 : X.length = n2 := by have := HL2.out; rw [toB_len] at this; exact this
  have hn3 : Y.length = n3 := by have := HL3.out; rw [toB_len] at this; exact this
  have h162 : n2 ≤ 16 := by have := HLP.out; omega
  have h163 : n3 ≤ 16 := by have := HLQ.out; omega
  rw [hn2, hn3] at HV
  clear hn2 hn3
  go_cut [11] from 24 to 66 (fun s11 wx => s11 = .bool W1 ∧ Hid (Upd noBlock w wx))
  case first =>
    by_cases h1 : x = 0
    · subst h1
      by_cases h2 : y = 0
      · subst h2
        have HX := Lib.hid (HV.out rfl rfl)
        by_cases hle : n3 ≤ n2
        · have hlo : ∀ w : World, (Instr.sliceAt 23 (.slice a2 n2 c2) none (some (.int .i64 (n3 : Int))) none).run Tryd.prog w = .ok (.slice (if c2 = 0 then a2 else a2.map (·.add 0)) n3 c2) w := fun w => run_slice_lo1 w 23 9 i0 Tryd.underlying23 hi0 a2 n2 c2 n3 hle hc2
          have R1 := Lib.hid ((S2'.out.head (c := c2) hle).more B3.out)
          have HE := Lib.hid (texts_any (if c2 = 0 then a2 else a2.map (·.add 0)) a3 n3 c2 w3.heap.size n3 c3 w3.heap.size ((toB X).take n3) (toB Y) w3 R1.out S3.out (Nat.le_refl _) (Nat.le_refl _) (by omega) (by omega))
          generalize (if c2 = 0 then a2 else a2.map (·.add 0)) = A1 at *
          have hle' : decide (n3 ≤ n2) = true := decide_eq_true hle
          have hY : Hid (decide ((toB X).take n3 = toB Y) = W1) := by
            show _ = _
            rw [HX.out, hle', Bool.true_and]
            exact decide_eq_decide.2 ⟨Eq.symm, Eq.symm⟩
          rw [hY.out] at HE
          have hmin : min (n2 : Int) (n3 : Int) = (n3 : Int) := by omega
          go_wp2_with (go_at_call 10; (with_reducible refine HE.out.mono ?_); rintro e w4 ⟨rfl, hu4⟩; have U4 := Lib.hid (U3.out.trans hu4); clear hu4)
          go_meet
          exact ⟨rfl, U4⟩
        · have hle' : decide (n3 ≤ n2) = false := decide_eq_false hle
          have hY : Hid (W1 = false) := by show _ = _; rw [HX.out, hle', Bool.false_and]
          go_wp2_with fail
          go_meet
          exact ⟨by rw [hY.out], U3⟩
      · have hY := Lib.hid (HN.out (.inr h2))
        have hx0 : (y == 0) = false := beq_eq_false_iff_ne.2 h2
        clear h2
        go_wp2_with fail
        go_meet
        exact ⟨by rw [hY.out], U3⟩
    · have hY := Lib.hid (HN.out (.inl h1))
      have hx0 : (x == 0) = false := beq_eq_false_iff_ne.2 h1
      clear h1
      go_wp2_with fail
      go_meet
      exact ⟨by rw [hY.out], U3⟩
  case rest =>
    obtain ⟨rfl, UC⟩ := hcut
    cases W1
    · go_wp2_with (go_at_call 14; (with_reducible refine (HW1.out _ (HM.out.upd UC.out)).mono ?_); rintro e w5 ⟨rfl, hu5⟩; replace UC := Lib.hid (UC.out.trans hu5); clear hu5)
      go_ret
      exact ⟨rfl, UC.out⟩
    · cases W2
      · go_wp2_with (first
          | (go_at_call 14; (with_reducible refine (HW1.out _ (HM.out.upd UC.out)).mono ?_); rintro e w5 ⟨rfl, hu5⟩; replace UC := Lib.hid (UC.out.trans hu5); clear hu5)
          | (go_at_call 14; (with_reducible refine (HW2.out _ (HM.out.upd UC.out)).mono ?_); rintro e w5 ⟨rfl, hu5⟩; replace UC := Lib.hid (UC.out.trans hu5); clear hu5))
        go_ret
        exact ⟨rfl, UC.out⟩
      · have h3 := HTR.out rfl rfl
        subst h3
        go_wp2_with (first
          | (go_at_call 14; (with_reducible refine (HW1.out _ (HM.out.upd UC.out)).mono ?_); rintro e w5 ⟨rfl, hu5⟩; replace UC := Lib.hid (UC.out.trans hu5); clear hu5)
          | (go_at_call 14; (with_reducible refine (HW2.out _ (HM.out.upd UC.out)).mono ?_); rintro e w5 ⟨rfl, hu5⟩; replace UC := Lib.hid (UC.out.trans hu5); clear hu5)
          | (go_at_call 14; (with_reducible refine (HW3.out _ (HM.out.upd UC.out)).mono ?_); rintro e w5 ⟨rfl, hu5⟩; replace UC := Lib.hid (UC.out.trans hu5); clear hu5))
        go_ret
        exact ⟨rfl, UC.out⟩
theorem pathWithin_walk (p q r : ByteArray) (w : World) (hp : p.size ≤ 140737488351232) (hq : q.size ≤ 140737488351232) (hr : r.size ≤ 140737488351232) (hm : Ml w) :
    Calls Tryd.prog 5 #[.string p, .string q, .string r] w fun e w' => e = .returned (.bool true) ∧ Below w.heap.size w w' :=
  (pathWithin_any p q r w (by unfold maxLen; omega) (by unfold maxLen; omega) (by unfold maxLen; omega) hm).mono fun _ _ ⟨h, hu⟩ => ⟨h, hu.below (fun _ _ h => h)⟩
end Go.Proofs.YtdbjinakbbiimaaDoor
