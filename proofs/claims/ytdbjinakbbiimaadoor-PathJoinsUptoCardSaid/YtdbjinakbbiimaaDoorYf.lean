/- The program's Parent; the law's looks. -/
import Derived.Test.YtdbjinakbbiimaaDoorYe
namespace Go.Proofs.YtdbjinakbbiimaaDoor
open Go.RowKit
set_option linter.unusedVariables false

/-- what Parent answers -/
def ParentA (p : List UInt8) (w : World) (e : Ending) (w' : World) : Prop :=
  e = .returned (.tuple #[.string ⟨(Pt.parentP p).1.toArray⟩, .string ⟨(Pt.parentP p).2.1.toArray⟩, .int .i64 (Pt.parentP p).2.2]) ∧ Upd noBlock w w'
theorem parentA_of {p : List UInt8} {a b : List UInt8} {x : Int} {q r : ByteArray} {w w' : World} (h : Pt.parentP p = (a, b, x)) (hq : q = ⟨a.toArray⟩) (hr : r = ⟨b.toArray⟩) (hu : Upd noBlock w w') : ParentA p w (.returned (.tuple #[.string q, .string r, .int .i64 x])) w' := by
  unfold ParentA; rw [h, hq, hr]; exact ⟨rfl, hu⟩
set_option maxRecDepth 100000 in
set_option maxHeartbeats 1600000 in
theorem parent_any (p : ByteArray) (w : World) (hm : Ml w) (hp : p.size ≤ maxLen) :
    Calls Tryd.prog 11 #[.string p] w (ParentA p.data.toList w) := by
  obtain ⟨i0, hi0, hz0, hz1, hz2⟩ := strParts
  have HSP := Lib.hid (fun W hW => split_any p W hW hp)
  have HM := Lib.hid hm
  have HLP := Lib.hid (splitP_len p.data.toList)
  have HG : Hid ((Pt.splitP p.data.toList).2 = 0 → Pt.Good (Pt.splitP p.data.toList).1) := fun h => Pt.Good.of h
  have HV : Hid (Pt.parentP p.data.toList = if (Pt.splitP p.data.toList).2 = 0 then (if (Pt.splitP p.data.toList).1 = [] then ([], [], 107) else ((Pt.joinP (Pt.splitP p.data.toList).1.dropLast).1, (Pt.splitP p.data.toList).1.getLastD [], (Pt.joinP (Pt.splitP p.data.toList).1.dropLast).2)) else ([], [], (Pt.splitP p.data.toList).2)) := rfl
  generalize p.data.toList = P at *
  clear hm hp
  go_enter Tryd.func11, Tryd.ntmps11
  go_upto_region 2 with (go_at_call 8; (with_reducible refine (HSP.out _ HM.out).mono ?_); rintro e w1 ⟨a1, n1, c1, rfl, hs1, hc1, hu1, -⟩; have S1 := Lib.hid hs1; have U1 := Lib.hid hu1; have HL1 := Lib.hid hs1.len; clear hs1 hu1)
  by_cases h1 : (Pt.splitP P).2 = 0
  · rw [h1]
    have H1 := Lib.hid h1
    have hG := HG.out h1
    rw [h1, if_pos rfl] at HV
    clear h1 HSP
    generalize (Pt.splitP P).1 = X at *
    have hL1 := HL1.out
    rw [toB_len] at hL1
    have h16 : n1 ≤ 16 := by have := HLP.out; omega
    rcases Nat.eq_zero_or_pos n1 with h0 | h0
    · subst h0
      have hx : X = [] := List.eq_nil_of_length_eq_zero hL1
      have HX : Hid (Pt.parentP P = ([], [], 107)) := by show _ = _; rw [HV.out, if_pos hx]
      clear hx hG hL1
      go_wp2_with fail
      go_ret3
      exact parentA_of HX.out rfl rfl U1.out
    · obtain ⟨m, hm⟩ : ∃ m, n1 = m + 1 := ⟨n1 - 1, by omega⟩
      have e1 : (n1 : Int) - 1 = (m : Int) := by omega
      have hmn : m < n1 := by omega
      have hX : X ≠ [] := fun e => by rw [e] at hL1; simp at hL1; omega
      have hd : X.dropLast = X.take m := by rw [List.dropLast_eq_take]; congr 1; omega
      have HX : Hid (Pt.parentP P = (Pt.joinT (X.take m), X.getD m [], 0)) := by
        show _ = _
        rw [HV.out, if_neg hX, hd, Pt.good_join (hG.take m)]
        congr 2
        have : X.getLastD [] = X.getD (X.length - 1) [] := by
          rw [List.getLastD_eq_getLast?, List.getLast?_eq_getElem?, List.getD_eq_getElem?_getD]
        rw [this]; congr 1; omega
      have hGJ := Pt.good_join (hG.take m)
      have hsz := (hG.take m).size
      have hlo : ∀ w : World, (Instr.sliceAt 23 (.slice a1 n1 c1) none (some (.int .i64 (m : Int))) none).run Tryd.prog w = .ok (.slice (if c1 = 0 then a1 else a1.map (·.add 0)) m c1) w := fun w => run_slice_lo1 w 23 9 i0 Tryd.underlying23 hi0 a1 n1 c1 m (by omega) hc1
      have R1 := Lib.hid (S1.out.head (c := c1) (Nat.le_of_lt hmn))
      have HJ : Hid (Calls Tryd.prog 13 #[.slice (if c1 = 0 then a1 else a1.map (·.add 0)) m c1] w1 (fun e w' => e = .returned (.tuple #[.string ⟨(Pt.joinT (X.take m)).toArray⟩, .int .i64 0]) ∧ Upd noBlock w1 w')) := by
        have hj := join_any (if c1 = 0 then a1 else a1.map (·.add 0)) m c1 w1.heap.size ((toB X).take m) w1 (HM.out.upd U1.out) R1.out (Nat.le_refl _) (by omega) (by omega) (by
          rw [toB_take, toB_back]
          have : (Pt.joinT (X.take m)).length = (Lib.join (X.take m) [47]).length + 1 := rfl
          omega)
        rw [toB_take, toB_back] at hj
        unfold JoinA at hj
        rw [hGJ] at hj
        exact hj
      generalize (if c1 = 0 then a1 else a1.map (·.add 0)) = A1 at *
      obtain ⟨g, off, rfl, hg, hcl⟩ := S1.out.cell h0
      have hcm := hcl m hmn
      have hgd : (toB X).getD m ⟨#[]⟩ = ⟨(X.getD m []).toArray⟩ := by
        unfold toB
        rw [List.getD_eq_getElem?_getD, List.getElem?_map, List.getD_eq_getElem?_getD, List.getElem?_eq_getElem (by omega)]; rfl
      rw [hgd] at hcm
      have HCM := Lib.hid hcm
      have HQ : Hid ((⟨(X.getD m []).toArray⟩ : ByteArray) = ⟨(X.getD m []).toArray⟩) := rfl
      clear hcl hcm hgd hGJ hsz hd hX hG hL1 hm
      have HPA : Hid (∀ w', Upd noBlock w w' → ParentA P w (.returned (.tuple #[.string ⟨(Pt.joinT (X.take m)).toArray⟩, .string ⟨(X.getD m []).toArray⟩, .int .i64 0])) w') := fun w' h => parentA_of HX.out rfl rfl h
      generalize (⟨(X.getD m []).toArray⟩ : ByteArray) = r at *
      generalize (⟨(Pt.joinT (X.take m)).toArray⟩ : ByteArray) = q at *
      go_upto_region 8 with (go_at_call 13; (with_reducible refine HJ.out.mono ?_); rintro e w2 ⟨rfl, hu2⟩; have U2 := Lib.hid (U1.out.trans hu2); have c2 := upd_cell hu2 HCM.out; clear hu2)
      go_region
      go_wp2_with fail
      go_ret3
      exact HPA.out _ U2.out.drew
  · have HX : Hid (Pt.parentP P = ([], [], (Pt.splitP P).2)) := by show _ = _; rw [HV.out, if_neg h1]
    have hx0 : ((Pt.splitP P).2 != 0) = true := by rw [bne_iff_ne]; exact h1
    clear h1
    generalize (Pt.splitP P).2 = x at *
    go_wp2_with fail
    go_ret3
    exact parentA_of HX.out rfl rfl U1.out
set_option maxRecDepth 100000 in
set_option maxHeartbeats 800000 in
theorem texts_any (a a' : Option Addr) (n c B m d B' : Nat) (Xs Ys : List ByteArray) (w : World) (h : Strs w B a n Xs) (h' : Strs w B' a' m Ys) (hB : B ≤ w.heap.size) (hB' : B' ≤ w.heap.size) (hn : n ≤ 8796093022208) (hm : m ≤ 8796093022208) :
    Calls Tryd.prog 10 #[.slice a n c, .slice a' m d] w fun e w' => e = .returned (.bool (decide (Xs = Ys))) ∧ Upd noBlock w w' := by
  have HS := Lib.hid h
  have HT := Lib.hid h'
  have HL := Lib.hid h.len
  have HL' := Lib.hid h'.len
  have HBB : Hid (B ≤ w.heap.size ∧ B' ≤ w.heap.size) := ⟨hB, hB'⟩
  clear h h' hB hB'
  by_cases e : n = m
  · subst e
    go_enter Tryd.func10, Tryd.ntmps10
    go_wp2
    go_loopw [5] (fun i wr => ∃ k : Nat, k ≤ n ∧ i = .int .i64 (k : Int) ∧ Hid (Xs.take k = Ys.take k) ∧ Hid (Upd noBlock w wr)) (fun i _ => n - (intOf i).toNat)
    case atStart => exact ⟨0, Nat.zero_le _, rfl, rfl, Upd.refl _ _⟩
    case round =>
      obtain ⟨k, hk, rfl, HA, HU⟩ := hrel
      by_cases h0 : k < n
      · obtain ⟨b, off, hab, hb, hc⟩ := (HS.out.grow HU.out HBB.out.1).cell (by omega)
        obtain ⟨b', off', hab', hb', hc'⟩ := (HT.out.grow HU.out HBB.out.2).cell (by omega)
        subst hab hab'
        have c1 := hc k h0
        have c2 := hc' k h0
        have HN := Lib.hid (alike_step Xs Ys k (by rw [HL.out]; exact h0) (by rw [HL'.out]; exact h0) HA.out)
        have HF := Lib.hid (alike_not Xs Ys k)
        generalize Xs.getD k ⟨#[]⟩ = s at *
        generalize Ys.getD k ⟨#[]⟩ = t at *
        clear hc hc'
        by_cases est : s = t
        · have e1 := str_eq est
          have HN2 := Lib.hid (HN.out est)
          clear est
          go_wp2
          go_region
          go_wp2
          go_roundw
          case rel => exact ⟨k + 1, by omega, by go_num, HN2, HU.out.drew⟩
          case measure => simp [intOf]; omega
        · have e1 := str_ne est
          have HN2 := Lib.hid (HF.out est)
          clear est
          go_wp2
          go_region
          go_wp2
          go_ret
          exact ⟨ret_bool HN2.out.symm, HU.out.drew⟩
      · obtain rfl : k = n := by omega
        have HE : Hid (decide (Xs = Ys) = true) := by
          have := HA.out
          rw [List.take_of_length_le (by rw [HL.out]; omega), List.take_of_length_le (by rw [HL'.out]; omega)] at this
          exact decide_eq_true this
        go_wp2
        go_ret
        exact ⟨ret_bool HE.out.symm, HU.out⟩
  · have HE : Hid (decide (Xs = Ys) = false) := decide_eq_false fun h => e (by rw [← HL.out, ← HL'.out, h])
    have e2 : ((n : Int) != (m : Int)) = true := by rw [bne_iff_ne]; omega
    clear e
    go_enter Tryd.func10, Tryd.ntmps10
    go_wp2
    go_ret
    exact ⟨ret_bool HE.out.symm, Upd.refl _ _⟩
set_option maxRecDepth 100000 in
set_option maxHeartbeats 800000 in
theorem speaks18_any (w : World) (hm : Ml w) :
    Calls Tryd.prog 7 #[] w fun e w' => e = .returned (.bool true) ∧ Upd noBlock w w' := by
  have HSP : Hid (∀ W, Ml W → Calls Tryd.prog 8 #[.string ⟨#[47, 97, 47, 98]⟩] W fun e w' => ∃ g off c, e = .returned (.tuple #[.slice (some ⟨g, off, none⟩) 2 c, .int .i64 0]) ∧ w'.cell? ⟨g, off + 1, none⟩ = some (.string ⟨#[98]⟩) ∧ Upd noBlock W w') := fun W hW => (split_any ⟨#[47, 97, 47, 98]⟩ W hW (by decide)).mono fun e w' ⟨a, n, c, he, hs, hc, hu, _⟩ => by
    have ev : Pt.splitP (⟨#[47, 97, 47, 98]⟩ : ByteArray).data.toList = ([[97], [98]], 0) := by decide
    rw [ev] at he hs
    have hl : n = 2 := hs.len.symm
    subst hl
    obtain ⟨g, off, rfl, hg, hcl⟩ := hs.cell (by omega)
    exact ⟨g, off, c, he, hcl 1 (by omega), hu⟩
  have HM := Lib.hid hm
  clear hm
  go_enter Tryd.func7, Tryd.ntmps7
  go_wp2_with (go_at_call 8; (with_reducible refine (HSP.out _ HM.out).mono ?_); rintro e w1 ⟨g, off, c, rfl, hc1, hu1⟩; have U1 := Lib.hid hu1; clear hu1)
  go_ret
  exact ⟨rfl, U1.out⟩
end Go.Proofs.YtdbjinakbbiimaaDoor
