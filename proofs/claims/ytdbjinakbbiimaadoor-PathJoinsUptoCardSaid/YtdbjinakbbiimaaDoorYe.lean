/- The program's Join, Parent and Within. -/
import Derived.Test.YtdbjinakbbiimaaDoorYd
import Derived.DataShut
namespace Go.Proofs.YtdbjinakbbiimaaDoor
open Go.RowKit
set_option linter.unusedVariables false

theorem strParts : ∃ i0, Tryd.prog.info? 9 = some i0 ∧ i0.zero = some (.string ⟨#[]⟩) ∧ i0.size = 1 ∧ i0.bytes = 16 := by
  have h : (Tryd.prog.info? 9).map (fun i => (i.zero, i.size, i.bytes)) = some (some (.string ⟨#[]⟩), 1, 16) := by kernel_rfl
  cases h0 : Tryd.prog.info? 9 with
  | none => rw [h0] at h; cases h
  | some i =>
    rw [h0] at h
    simp only [Option.map_some, Option.some.injEq, Prod.mk.injEq] at h
    exact ⟨i, rfl, h.1, h.2.1, h.2.2⟩
theorem Strs.head {w : World} {B n k c : Nat} {A : Option Addr} {Ss : List ByteArray} (h : Strs w B A n Ss) (hk : k ≤ n) : Strs w B (if c = 0 then A else A.map (·.add 0)) k (Ss.take k) :=
  ⟨by rw [List.map_take]; exact Row1.head w h.row hk, fun s hs => h.fit s (List.mem_of_mem_take hs)⟩
theorem sjoin_any (a : Option Addr) (n c B : Nat) (Ss : List ByteArray) (w : World) (h : Strs w B a n Ss) (hB : B ≤ w.heap.size) (hc : n ≤ c) (hn : n ≤ 8796093022208) (hl : (Lib.join (Ss.map (·.data.toList)) [47]).length ≤ 140737488355328) :
    Calls Tryd.prog 21 #[.slice a n c, .string ⟨#[47]⟩] w fun e w' => e = .returned (.string ⟨(Lib.join (Ss.map (·.data.toList)) [47]).toArray⟩) ∧ Upd noBlock w w' := by
  have hlen := h.len
  rcases Nat.eq_zero_or_pos n with h0 | h0
  · subst h0
    have : Ss = [] := List.eq_nil_of_length_eq_zero hlen
    subst this
    exact (Tryd.strings_Join_none a c ⟨#[47]⟩ w).mono fun e w' ⟨h1, h2⟩ => ⟨h1, h2 ▸ Upd.refl _ _⟩
  · obtain ⟨g, off, rfl, hg, hcl⟩ := h.cell h0
    have h9 := Tryd.strings_Join g off c Ss ⟨#[47]⟩ w (fun j x hx => by
      have hj : j < Ss.length := (List.getElem?_eq_some_iff.1 hx).1
      rw [hcl j (by omega), List.getD_eq_getElem?_getD, hx]; rfl) (by omega) (by omega) (by omega) hl
    rw [hlen] at h9
    exact h9.mono fun e w' ⟨h1, h2⟩ => ⟨h1, Upd.of_below h2 _⟩
/-- what Join answers -/
def JoinA (xs : List (List UInt8)) (w : World) (e : Ending) (w' : World) : Prop :=
  e = .returned (.tuple #[.string ⟨(Pt.joinP xs).1.toArray⟩, .int .i64 (Pt.joinP xs).2]) ∧ Upd noBlock w w'
theorem joinA_of {xs : List (List UInt8)} {p : List UInt8} {x : Int} {q : ByteArray} {w w' : World} (h : Pt.joinP xs = (p, x)) (hq : q = ⟨p.toArray⟩) (hu : Upd noBlock w w') : JoinA xs w (.returned (.tuple #[.string q, .int .i64 x])) w' := by
  unfold JoinA; rw [h, hq]; exact ⟨rfl, hu⟩
theorem splitP_err (p : List UInt8) : (Pt.splitP p).2 = 0 ∨ (Pt.splitP p).2 = 105 ∨ (Pt.splitP p).2 = 107 := by
  unfold Pt.splitP Pt.splitL
  split
  · split
    · exact .inl rfl
    · split
      · exact .inr (.inr rfl)
      · split
        · exact .inr (.inl rfl)
        · exact .inl rfl
  · exact .inr (.inr rfl)
theorem splitP_len (p : List UInt8) : (Pt.splitP p).1.length ≤ 16 := by
  by_cases h : (Pt.splitP p).2 = 0
  · exact (Pt.splitP_good h).1.depth
  · rw [Pt.splitP_bad h]; exact Nat.zero_le _
set_option maxRecDepth 100000 in
set_option maxHeartbeats 1600000 in
theorem join_any (a : Option Addr) (n c B : Nat) (Ss : List ByteArray) (w : World) (hm : Ml w) (h : Strs w B a n Ss) (hB : B ≤ w.heap.size) (hc : n ≤ c) (hn : n ≤ 8796093022208) (hl : (Lib.join (Ss.map (·.data.toList)) [47]).length ≤ 140737488355328) :
    Calls Tryd.prog 13 #[.slice a n c] w (JoinA (Ss.map (·.data.toList)) w) := by
  have hnot : ∀ (x : Bool) (w : World), (Op.unary .not (.bool x)).run Tryd.prog w = .ok (.bool (!x)) w := fun _ _ => rfl
  have HJ := Lib.hid (sjoin_any a n c B Ss w h hB hc hn hl)
  obtain ⟨xs, hxs⟩ : ∃ xs, Ss.map (·.data.toList) = xs := ⟨_, rfl⟩
  have hSs : Ss = toB xs := by rw [← hxs, toB_of]
  rw [hxs] at HJ hl ⊢
  obtain ⟨q, hq⟩ : ∃ q : ByteArray, ⟨(Lib.join xs [47]).toArray⟩ = q := ⟨_, rfl⟩
  have hqd : q.data.toList = Lib.join xs [47] := by rw [← hq]
  obtain ⟨P, hP⟩ : ∃ P, (⟨#[47]⟩ : ByteArray) ++ q = P := ⟨_, rfl⟩
  have hPd : P.data.toList = Pt.joinT xs := by
    rw [← hP, ByteArray.data_append, Array.toList_append, hqd]; rfl
  have hqz : (⟨#[47]⟩ : ByteArray).size + q.size ≤ 9223372036854775807 := by
    have e1 : q.data.toList.length = q.size := rfl
    have e2 : (⟨#[47]⟩ : ByteArray).size = 1 := rfl
    rw [hqd] at e1
    omega
  have hPz : P.size ≤ maxLen := by
    rw [← hP, ByteArray.size_append]; unfold maxLen; omega
  rw [hq] at HJ
  have HSP : Hid (∀ W, Ml W → Calls Tryd.prog 8 #[.string P] W (SplitA (Pt.joinT xs) W)) := fun W hW => by
    have := split_any P W hW hPz
    rwa [hPd] at this
  have HS := Lib.hid h
  have HM := Lib.hid hm
  have HBB := Lib.hid hB
  have HJP : Hid (Pt.joinP xs = if (Pt.splitP (Pt.joinT xs)).2 = 0 then (if (Pt.splitP (Pt.joinT xs)).1 = xs then (Pt.joinT xs, 0) else ([], 107)) else ([], (Pt.splitP (Pt.joinT xs)).2)) := rfl
  have HPQ : Hid (P = ⟨(Pt.joinT xs).toArray⟩) := by show P = _; rw [← hPd]
  have HER := Lib.hid (splitP_err (Pt.joinT xs))
  have HLE := Lib.hid (splitP_len (Pt.joinT xs))
  have HEQ : Hid (decide (toB (Pt.splitP (Pt.joinT xs)).1 = Ss) = decide ((Pt.splitP (Pt.joinT xs)).1 = xs)) := by
    show _ = _
    rw [hSs]
    by_cases e : (Pt.splitP (Pt.joinT xs)).1 = xs
    · rw [decide_eq_true e, decide_eq_true (by rw [e])]
    · rw [decide_eq_false e, decide_eq_false (fun h => e (toB_inj h))]
  clear hq hqd hPd hPz h hm hB hl hxs hSs
  go_enter Tryd.func13, Tryd.ntmps13
  go_upto_region 3 with (first
    | (go_at_call 21; (with_reducible refine HJ.out.mono ?_); rintro e w1 ⟨rfl, hu1⟩; have U1 := Lib.hid hu1; clear hu1)
    | (go_at_call 8; (with_reducible refine (HSP.out _ (HM.out.upd U1.out)).mono ?_); rintro e w2 ⟨a2, n2, c2, rfl, hs2, hc2, hu2, -⟩; have S2 := Lib.hid hs2; have U2 := Lib.hid (U1.out.trans hu2); have HL2 := Lib.hid hs2.len; clear hs2 hu2))
  obtain ⟨x, hx⟩ : ∃ x, (Pt.splitP (Pt.joinT xs)).2 = x := ⟨_, rfl⟩
  rw [hx] at HJP HER
  rw [hx]
  clear hx
  by_cases h0 : x = 0
  · subst h0
    have hn2 : n2 ≤ 16 := by have h1 := HL2.out; have h2 := HLE.out; rw [toB_len] at h1; omega
    have HE := Lib.hid (equal_any a2 a n2 c2 w2.heap.size n c w2.heap.size (toB (Pt.splitP (Pt.joinT xs)).1) Ss w2 S2.out ((HS.out.grow U2.out HBB.out).more (Nat.le_trans HBB.out U2.out.size)) (Nat.le_refl _) (Nat.le_refl _) (by omega) hn)
    rw [HEQ.out] at HE
    by_cases he : (Pt.splitP (Pt.joinT xs)).1 = xs
    · have HX : Hid (Pt.joinP xs = (Pt.joinT xs, 0)) := by show _ = _; rw [HJP.out, if_pos rfl, if_pos he]
      rw [decide_eq_true he] at HE
      clear he
      go_wp2_with (go_at_call 22; (with_reducible refine HE.out.mono ?_); rintro e w3 ⟨rfl, hu3⟩; have U3 := Lib.hid (U2.out.trans hu3); clear hu3)
      go_ret2
      exact joinA_of HX.out HPQ.out U3.out
    · have HX : Hid (Pt.joinP xs = ([], 107)) := by show _ = _; rw [HJP.out, if_pos rfl, if_neg he]
      rw [decide_eq_false he] at HE
      clear he
      go_wp2_with (go_at_call 22; (with_reducible refine HE.out.mono ?_); rintro e w3 ⟨rfl, hu3⟩; have U3 := Lib.hid (U2.out.trans hu3); clear hu3)
      go_ret2
      exact joinA_of HX.out rfl U3.out
  · have HX : Hid (Pt.joinP xs = ([], x)) := by show _ = _; rw [HJP.out, if_neg h0]
    have hx0 : (x != 0) = true := by rw [bne_iff_ne]; exact h0
    clear h0
    go_wp2_with fail
    go_ret2
    exact joinA_of HX.out rfl U2.out
/-- what Within answers, from the parts -/
theorem within_val (p q : List UInt8) (h1 : (Pt.splitP p).2 = 0) (h2 : (Pt.splitP q).2 = 0) : Pt.withinP p q = (decide ((Pt.splitP q).1.length ≤ (Pt.splitP p).1.length) && decide (toB (Pt.splitP q).1 = (toB (Pt.splitP p).1).take (Pt.splitP q).1.length)) := by
  unfold Pt.withinP
  rw [decide_eq_true h1, decide_eq_true h2, Bool.true_and, Bool.true_and]
  generalize (Pt.splitP q).1 = Y
  generalize (Pt.splitP p).1 = X
  by_cases e : Y = X.take Y.length
  · have hl : Y.length ≤ X.length := by
      have := congrArg List.length e
      rw [List.length_take] at this
      omega
    rw [decide_eq_true hl, Bool.true_and, toB_take, ← e]
    simp
  · rw [decide_eq_false e, toB_take, decide_eq_false (fun h => e (toB_inj h)), Bool.and_false]
set_option maxRecDepth 100000 in
set_option maxHeartbeats 1600000 in
theorem within_any (p q : ByteArray) (w : World) (hm : Ml w) (hp : p.size ≤ maxLen) (hq : q.size ≤ maxLen) :
    Calls Tryd.prog 14 #[.string p, .string q] w fun e w' => e = .returned (.bool (Pt.withinP p.data.toList q.data.toList)) ∧ Upd noBlock w w' := by
  obtain ⟨i0, hi0, hz0, hz1, hz2⟩ := strParts
  have HSP := Lib.hid (fun W hW => split_any p W hW hp)
  have HSQ := Lib.hid (fun W hW => split_any q W hW hq)
  have HM := Lib.hid hm
  have HV := Lib.hid (within_val p.data.toList q.data.toList)
  have HN : Hid ((Pt.splitP p.data.toList).2 ≠ 0 ∨ (Pt.splitP q.data.toList).2 ≠ 0 → Pt.withinP p.data.toList q.data.toList = false) := by
    intro h
    unfold Pt.withinP
    rcases h with h | h
    · rw [decide_eq_false h, Bool.false_and]
    · rw [decide_eq_false h, Bool.false_and, Bool.and_false]
  have HLP := Lib.hid (splitP_len p.data.toList)
  have HLQ := Lib.hid (splitP_len q.data.toList)
  generalize p.data.toList = P at *
  generalize q.data.toList = Q at *
  clear hm hp hq
  go_enter Tryd.func14, Tryd.ntmps14
  go_upto_region 2 with (go_at_call 8; (with_reducible refine (HSP.out _ HM.out).mono ?_); rintro e w1 ⟨a1, n1, c1, rfl, hs1, hc1, hu1, -⟩; have S1 := Lib.hid hs1; have U1 := Lib.hid hu1; have HL1 := Lib.hid hs1.len; clear hs1 hu1)
  by_cases h1 : (Pt.splitP P).2 = 0
  · rw [h1]
    have H1 := Lib.hid h1
    clear h1
    go_upto_region 5 with (go_at_call 8; (with_reducible refine (HSQ.out _ (HM.out.upd U1.out)).mono ?_); rintro e w2 ⟨a2, n2, c2, rfl, hs2, hc2, hu2, -⟩; have S2 := Lib.hid hs2; have U2 := Lib.hid hu2; have HL2 := Lib.hid hs2.len; clear hs2 hu2)
    by_cases h2 : (Pt.splitP Q).2 = 0
    · rw [h2]
      have HX := Lib.hid (HV.out H1.out h2)
      have h16 : n1 ≤ 16 ∧ n2 ≤ 16 := by
        have e1 := HL1.out; have e2 := HL2.out; have e3 := HLP.out; have e4 := HLQ.out
        rw [toB_len] at e1 e2
        omega
      obtain ⟨h161, h162⟩ := h16
      have HLX : Hid ((Pt.splitP Q).1.length = n2 ∧ (Pt.splitP P).1.length = n1) := by
        have e1 := HL1.out; have e2 := HL2.out
        rw [toB_len] at e1 e2
        exact ⟨e2, e1⟩
      rw [HLX.out.1, HLX.out.2] at HX
      clear h2
      by_cases hle : n2 ≤ n1
      · have hlo : ∀ w : World, (Instr.sliceAt 23 (.slice a1 n1 c1) none (some (.int .i64 (n2 : Int))) none).run Tryd.prog w = .ok (.slice (if c1 = 0 then a1 else a1.map (·.add 0)) n2 c1) w := fun w => run_slice_lo1 w 23 9 i0 Tryd.underlying23 hi0 a1 n1 c1 n2 hle hc1
        have R1 := Lib.hid (((S1.out.grow U2.out (Nat.le_refl _)).head (c := c1) hle).more U2.out.size)
        have HE := Lib.hid (equal_any a2 (if c1 = 0 then a1 else a1.map (·.add 0)) n2 c2 w2.heap.size n2 c1 w2.heap.size (toB (Pt.splitP Q).1) ((toB (Pt.splitP P).1).take n2) w2 S2.out R1.out (Nat.le_refl _) (Nat.le_refl _) (by omega) (by omega))
        generalize (if c1 = 0 then a1 else a1.map (·.add 0)) = A1 at *
        rw [decide_eq_true hle, Bool.true_and] at HX
        have hle' : decide (n2 ≤ n1) = true := decide_eq_true hle
        go_wp2_with (go_at_call 22; (with_reducible refine HE.out.mono ?_); rintro e w3 ⟨rfl, hu3⟩; have U3 := Lib.hid ((U1.out.trans U2.out).trans hu3); clear hu3)
        go_ret
        exact ⟨ret_bool HX.out.symm, U3.out⟩
      · have hle' : decide (n2 ≤ n1) = false := decide_eq_false hle
        rw [hle', Bool.false_and] at HX
        go_wp2_with fail
        go_ret
        exact ⟨ret_bool HX.out.symm, U1.out.trans U2.out⟩
    · have HX := Lib.hid (HN.out (.inr h2))
      have hx0 : ((Pt.splitP Q).2 != 0) = true := by rw [bne_iff_ne]; exact h2
      clear h2
      generalize (Pt.splitP Q).2 = x at *
      go_wp2_with fail
      go_ret
      exact ⟨ret_bool HX.out.symm, U1.out.trans U2.out⟩
  · have HX := Lib.hid (HN.out (.inl h1))
    have hx0 : ((Pt.splitP P).2 != 0) = true := by rw [bne_iff_ne]; exact h1
    clear h1
    generalize (Pt.splitP P).2 = x at *
    go_wp2_with fail
    go_ret
    exact ⟨ret_bool HX.out.symm, U1.out⟩
end Go.Proofs.YtdbjinakbbiimaaDoor
