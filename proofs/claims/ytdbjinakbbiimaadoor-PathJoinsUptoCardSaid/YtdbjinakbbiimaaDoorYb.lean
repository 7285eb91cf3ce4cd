/- Calls over lists of strings: a look for one that is so, two lists alike. -/
import Derived.Test.YtdbjinakbbiimaaDoorRows
import Derived.Test.YtdbjinakbbiimaaDoorSt
import Derived.Test.YtdbjinakbbiimaaDoorYa
import Derived.WalkKit
import Derived.Lib.Hide
import Derived.Lib.Strings
import Derived.WalkSpells
import Derived.WalkLawsBesides
import Derived.BigQuiet
import Derived.BigRegion
import Derived.Deep.OwnRows
import Derived.Deep.QuietTactic
namespace Go.Proofs.YtdbjinakbbiimaaDoor
open Go.RowKit
set_option linter.unusedVariables false

theorem ret_bool {a b : Bool} (h : a = b) : Ending.returned (.bool a) = Ending.returned (.bool b) := by rw [h]
theorem takeS_snoc (l : List ByteArray) (k : Nat) (h : k < l.length) : l.take (k + 1) = l.take k ++ [l.getD k ⟨#[]⟩] := by
  rw [List.getD_eq_getElem?_getD, List.getElem?_eq_getElem h]
  simp
theorem any_succ (Ss : List ByteArray) (p : ByteArray → Bool) (k : Nat) (h : k < Ss.length) : (Ss.take (k + 1)).any p = ((Ss.take k).any p || p (Ss.getD k ⟨#[]⟩)) := by
  rw [takeS_snoc Ss k h, List.any_append]; simp
theorem getD_memS (Ss : List ByteArray) (k : Nat) (h : k < Ss.length) : Ss.getD k ⟨#[]⟩ ∈ Ss := by
  rw [List.getD_eq_getElem?_getD, List.getElem?_eq_getElem h]; exact List.getElem_mem h
set_option maxRecDepth 100000 in
set_option maxHeartbeats 800000 in
theorem indexFunc_any (F : FuncId) (p : ByteArray → Bool) (a : Option Addr) (n c B : Nat) (Ss : List ByteArray) (w : World) (h : Strs w B a n Ss) (hn : n ≤ 8796093022208)
    (hp : ∀ s ∈ Ss, Calls Tryd.prog F #[.string s] w fun e w' => e = .returned (.bool (p s)) ∧ w = w')
    (eg : ∀ args w, (callFunc F args).run Tryd.prog w = .ok (.enter F args) w) :
    Calls Tryd.prog 25 #[.slice a n c, .func (.func F) #[] #[]] w fun e w' => ∃ r : Int, e = .returned (.int .i64 r) ∧ decide (r ≥ 0) = Ss.any p ∧ w = w' := by
  have HS := Lib.hid h
  have HL := Lib.hid h.len
  have HP := Lib.hid hp
  clear h hp
  go_enter Tryd.func25, Tryd.ntmps25
  go_wp2
  go_loop [8] (fun i => ∃ k : Nat, k ≤ n ∧ i = .int .i64 (k : Int) ∧ Hid ((Ss.take k).any p = false)) (fun i => n - (intOf i).toNat)
  case atStart => exact ⟨0, Nat.zero_le _, rfl, rfl⟩
  case round =>
    obtain ⟨k, hk, rfl, HA⟩ := hrel
    by_cases h0 : k < n
    · obtain ⟨b, off, hab, hb, hc⟩ := HS.out.cell (by omega)
      subst hab
      have c1 := hc k h0
      have HN := Lib.hid (any_succ Ss p k (by rw [HL.out]; exact h0))
      have HM := Lib.hid (getD_memS Ss k (by rw [HL.out]; exact h0))
      have HC : Hid (p (Ss.getD k ⟨#[]⟩) = true → Ss.any p = true) := fun e => List.any_eq_true.2 ⟨_, HM.out, e⟩
      generalize Ss.getD k ⟨#[]⟩ = s at *
      clear hc
      go_wp2
      refine (HP.out s HM.out).mono ?_
      rintro e w2 ⟨rfl, rfl⟩
      cases hq : p s
      · have HN2 : Hid ((Ss.take (k + 1)).any p = false) := by show _ = _; rw [HN.out, HA.out, hq]; rfl
        go_wp2_with fail
        go_round
        case rel => exact ⟨k + 1, by omega, by go_num, HN2⟩
        case measure => simp [intOf]; omega
      · have HC2 := Lib.hid (HC.out hq)
        go_wp2_with fail
        go_ret
        exact ⟨_, rfl, by rw [HC2.out]; exact decide_eq_true (by omega), rfl⟩
    · obtain rfl : k = n := by omega
      have e : Ss.take k = Ss := List.take_of_length_le (by rw [HL.out]; omega)
      rw [e] at HA
      go_wp2
      go_ret
      exact ⟨_, rfl, by rw [HA.out]; rfl, rfl⟩
set_option maxRecDepth 100000 in
theorem containsFunc_any (F : FuncId) (p : ByteArray → Bool) (a : Option Addr) (n c B : Nat) (Ss : List ByteArray) (w : World) (h : Strs w B a n Ss) (hn : n ≤ 8796093022208)
    (hp : ∀ s ∈ Ss, Calls Tryd.prog F #[.string s] w fun e w' => e = .returned (.bool (p s)) ∧ w = w')
    (eg : ∀ args w, (callFunc F args).run Tryd.prog w = .ok (.enter F args) w) :
    Calls Tryd.prog 17 #[.slice a n c, .func (.func F) #[] #[]] w fun e w' => e = .returned (.bool (Ss.any p)) ∧ w = w' := by
  have HI := Lib.hid (indexFunc_any F p a n c B Ss w h hn hp eg)
  clear h hp eg
  go_enter Tryd.func17, Tryd.ntmps17
  go_wp2_with (go_at_call 25; (with_reducible refine HI.out.mono ?_); rintro e w2 ⟨r, rfl, hr, rfl⟩; have HR := Lib.hid hr; clear hr)
  go_ret
  exact ⟨ret_bool HR.out, rfl⟩
/-- two lists of strings alike -/
theorem alike_step (Xs Ys : List ByteArray) (k : Nat) (hx : k < Xs.length) (hy : k < Ys.length) (h : Xs.take k = Ys.take k) (e : Xs.getD k ⟨#[]⟩ = Ys.getD k ⟨#[]⟩) : Xs.take (k + 1) = Ys.take (k + 1) := by
  rw [takeS_snoc Xs k hx, takeS_snoc Ys k hy, h, e]
theorem alike_not (Xs Ys : List ByteArray) (k : Nat) (e : Xs.getD k ⟨#[]⟩ ≠ Ys.getD k ⟨#[]⟩) : decide (Xs = Ys) = false := decide_eq_false fun h => e (by rw [h])
theorem str_eq {x y : ByteArray} (h : x = y) : (x.toList == y.toList) = true := by rw [h]; simp
theorem str_ne {x y : ByteArray} (h : x ≠ y) : (x.toList == y.toList) = false := by
  rw [beq_eq_false_iff_ne, Lib.toList_data, Lib.toList_data]
  exact fun e => h (ByteArray.ext (Array.ext' e))
set_option maxRecDepth 100000 in
set_option maxHeartbeats 800000 in
theorem equal_any (a a' : Option Addr) (n c B m d B' : Nat) (Xs Ys : List ByteArray) (w : World) (h : Strs w B a n Xs) (h' : Strs w B' a' m Ys) (hB : B ≤ w.heap.size) (hB' : B' ≤ w.heap.size) (hn : n ≤ 8796093022208) (hm : m ≤ 8796093022208) :
    Calls Tryd.prog 22 #[.slice a n c, .slice a' m d] w fun e w' => e = .returned (.bool (decide (Xs = Ys))) ∧ Upd noBlock w w' := by
  have HS := Lib.hid h
  have HT := Lib.hid h'
  have HL := Lib.hid h.len
  have HL' := Lib.hid h'.len
  have HBB : Hid (B ≤ w.heap.size ∧ B' ≤ w.heap.size) := ⟨hB, hB'⟩
  clear h h' hB hB'
  by_cases e : n = m
  · subst e
    go_enter Tryd.func22, Tryd.ntmps22
    go_wp2
    go_loopw [13] (fun i wr => ∃ k : Nat, k ≤ n ∧ i = .int .i64 (k : Int) ∧ Hid (Xs.take k = Ys.take k) ∧ Hid (Upd noBlock w wr)) (fun i _ => n - (intOf i).toNat)
    case atStart => exact ⟨0, Nat.zero_le _, rfl, rfl, Upd.refl _ _⟩
    case round =>
      obtain ⟨k, hk, rfl, HA, HU⟩ := hrel
      by_cases h0 : k < n
      · obtain ⟨b, off, hab, hb, hc⟩ := (HS.out.grow HU.out HBB.out.1).cell (by omega)
        obtain ⟨b', off', hab', hb', hc'⟩ := (HT.out.grow HU.out HBB.out.2).cell (by omega)
        subst hab hab'
        have c1 := hc k h0
        have c2 := hc' k h0
        have HN := Lib.hid (alike_step Xs Ys k (by rw [HL.out]; exact h0) (by rw [HL'.out]; exact h0) HA.out)
        have HF := Lib.hid (alike_not Xs Ys k)
        generalize Xs.getD k ⟨#[]⟩ = s at *
        generalize Ys.getD k ⟨#[]⟩ = t at *
        clear hc hc'
        by_cases est : s = t
        · have e1 := str_eq est
          have HN2 := Lib.hid (HN.out est)
          clear est
          go_wp2
          go_region
          go_wp2
          go_roundw
          case rel => exact ⟨k + 1, by omega, by go_num, HN2, HU.out.drew⟩
          case measure => simp [intOf]; omega
        · have e1 := str_ne est
          have HN2 := Lib.hid (HF.out est)
          clear est
          go_wp2
          go_region
          go_wp2
          go_ret
          exact ⟨ret_bool HN2.out.symm, HU.out.drew⟩
      · obtain rfl : k = n := by omega
        have HE : Hid (decide (Xs = Ys) = true) := by
          have := HA.out
          rw [List.take_of_length_le (by rw [HL.out]; omega), List.take_of_length_le (by rw [HL'.out]; omega)] at this
          exact decide_eq_true this
        go_wp2
        go_ret
        exact ⟨ret_bool HE.out.symm, HU.out⟩
  · have HE : Hid (decide (Xs = Ys) = false) := decide_eq_false fun h => e (by rw [← HL.out, ← HL'.out, h])
    have e2 : ((n : Int) != (m : Int)) = true := by rw [bne_iff_ne]; omega
    clear e
    go_enter Tryd.func22, Tryd.ntmps22
    go_wp2
    go_ret
    exact ⟨ret_bool HE.out.symm, Upd.refl _ _⟩
set_option maxRecDepth 100000 in
theorem isLong_any (s : ByteArray) (w : World) (hs : s.size ≤ 9223372036854775807) :
    Calls Tryd.prog 19 #[.string s] w fun e w' => e = .returned (.bool (Pt.long s.data.toList)) ∧ w = w' := by
  have HE : Hid (Pt.long s.data.toList = decide ((s.size : Int) > 32)) := by
    show decide (32 < s.data.toList.length) = decide ((s.size : Int) > 32)
    have : s.data.toList.length = s.size := rfl
    rw [this]
    by_cases h : 32 < s.size
    · rw [decide_eq_true h, decide_eq_true (by omega)]
    · rw [decide_eq_false h, decide_eq_false (by omega)]
  go_enter Tryd.func19, Tryd.ntmps19
  go_wp2
  go_ret
  exact ⟨ret_bool HE.out.symm, rfl⟩
end Go.Proofs.YtdbjinakbbiimaaDoor
