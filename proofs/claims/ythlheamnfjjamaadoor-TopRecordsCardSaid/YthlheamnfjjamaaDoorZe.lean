/- Unpack; speaks. -/
import Derived.Test.YthlheamnfjjamaaDoorZd
import Derived.Test.YthlheamnfjjamaaDoorShelf
namespace Go.Proofs.YthlheamnfjjamaaDoor
open Go.RowKit

/-- what Unpack answers -/
def unpackL (s : List UInt8) (most : Int) : List UInt8 × Int :=
  match s with
  | [] => ([], 4)
  | c :: r => if c = 1 then unp r.length r [] (min (max most 0) 65536).toNat else if c = 0 then (if (min (max most 0) 65536).toNat < r.length then ([], 2) else (r, 0)) else ([], 4)

set_option maxRecDepth 20000 in
theorem clone_anyZ (s : ByteArray) (w : World) (hs : s.size ≤ 281474976710656) :
    Calls Tryd.prog 58 #[.string s] w fun e w' => e = .returned (.string s) ∧ Upd noBlock w w' := by
  have H := Tryd.stringslite_Clone s w hs
  go_enter Tryd.func58, Tryd.ntmps58
  go_wp2_with fail
  refine H.mono ?_
  rintro e w1 ⟨rfl, hb⟩
  have HB := Lib.hid hb
  clear H hb
  go_wp2_with fail
  go_ret
  exact ⟨rfl, Upd.of_below HB.out _⟩
theorem hp_no (x c : UInt8) (r : List UInt8) (h : ¬ c = x) : Lib.hasPrefix (c :: r) [x] = false := by
  show ((x == c) && List.isPrefixOf [] r) = false
  rw [beq_eq_false_iff_ne.2 (Ne.symm h)]; rfl
theorem tp_no (x c : UInt8) (r : List UInt8) (h : ¬ c = x) : Lib.trimPrefix (c :: r) [x] = c :: r := by
  simp [Lib.trimPrefix, hp_no x c r h]
theorem cut_any (s p : List UInt8) (b : Bool) (t : List UInt8) (hb : Lib.hasPrefix s p = b) (ht : Lib.trimPrefix s p = t) (w : World) : Calls Tryd.prog 59 #[.string ⟨s.toArray⟩, .string ⟨p.toArray⟩] w fun e w' => e = .returned (.tuple #[.string ⟨t.toArray⟩, .bool b]) ∧ w' = w := by
  have h := Tryd.strings_CutPrefix ⟨s.toArray⟩ ⟨p.toArray⟩ w
  subst hb ht
  exact h

set_option maxRecDepth 20000 in
set_option maxHeartbeats 1600000 in
theorem Unpack_any (s : List UInt8) (most : Int) (w : World) (hs : s.length ≤ maxLen) :
    Calls Tryd.prog 36 #[.string ⟨s.toArray⟩, .int .i64 most] w fun e w' => e = .returned (.tuple #[.string ⟨(unpackL s most).1.toArray⟩, .int .i64 (unpackL s most).2]) ∧ Upd noBlock w w' := by
  obtain ⟨m, hm⟩ : ∃ m : Nat, (min (max most 0) 65536).toNat = m := ⟨_, rfl⟩
  have hm1 : min (max most 0) 65536 = (m : Int) := by omega
  have hm2 : m ≤ 65536 := by omega
  have HU := fun (t : List UInt8) (w : World) (ht : t.length ≤ maxLen) => unpack_any t m w ht hm2
  have HU := Lib.hid HU
  clear hm2
  rcases s with _ | ⟨c, r⟩
  · have c1 := fun w => cut_any [] [1] false [] rfl rfl w
    have c0 := fun w => cut_any [] [0] false [] rfl rfl w
    have c1 := Lib.hid c1
    have c0 := Lib.hid c0
    go_enter Tryd.func36, Tryd.ntmps36
    go_wp2_with (go_at_call 59; first | (with_reducible refine (c1.out _).mono ?_; rintro e w1 ⟨rfl, rfl⟩) | (with_reducible refine (c0.out _).mono ?_; rintro e w1 ⟨rfl, rfl⟩))
    go_ret2
    exact ⟨rfl, Upd.refl _ _⟩
  · by_cases h1 : c = 1
    · subst h1
      have c1 := fun w => cut_any (1 :: r) [1] true r (by simp [Lib.hasPrefix]) (by simp [Lib.trimPrefix, Lib.hasPrefix]) w
      have c1 := Lib.hid c1
      obtain ⟨R, hR⟩ : ∃ R, unp r.length r [] m = R := ⟨_, rfl⟩
      have hU : unpackL (1 :: r) most = R := by rw [← hR, ← hm]; rfl
      rw [hU]
      have hU2 := fun w => HU.out r w (by simp at hs; omega)
      rw [hR] at hU2
      have HU2 := Lib.hid hU2
      clear hU2 HU hU hR hs
      obtain ⟨q, hq⟩ : ∃ q : ByteArray, ⟨(1 :: r).toArray⟩ = q := ⟨_, rfl⟩
      obtain ⟨q2, hq2⟩ : ∃ q : ByteArray, ⟨r.toArray⟩ = q := ⟨_, rfl⟩
      rw [hq, hq2] at c1
      rw [hq]
      rw [hq2] at HU2
      clear hq hq2
      go_enter Tryd.func36, Tryd.ntmps36
      go_wp2_with (first | (go_at_call 59; with_reducible refine (c1.out _).mono ?_; rintro e w1 ⟨rfl, rfl⟩) | (go_at_call 60; refine (HU2.out _).mono ?_; rintro e w1 ⟨rfl, hu⟩))
      go_ret2
      exact ⟨rfl, hu⟩
    · have c1 := fun w => cut_any (c :: r) [1] false (c :: r) (hp_no 1 c r h1) (tp_no 1 c r h1) w
      have c1 := Lib.hid c1
      by_cases h0 : c = 0
      · subst h0
        have c0 := fun w => cut_any (0 :: r) [0] true r (by simp [Lib.hasPrefix]) (by simp [Lib.trimPrefix, Lib.hasPrefix]) w
        have c0 := Lib.hid c0
        have hsz := sz_str r
        by_cases hl : m < r.length
        · have hU : unpackL (0 :: r) most = ([], 2) := by
            rw [← hm] at hl
            simp only [unpackL]
            rw [if_neg (by decide), if_pos hl, if_pos trivial]
          rw [hU]
          clear hU HU hs
          obtain ⟨q, hq⟩ : ∃ q : ByteArray, ⟨(0 :: r).toArray⟩ = q := ⟨_, rfl⟩
          obtain ⟨q2, hq2⟩ : ∃ q : ByteArray, ⟨r.toArray⟩ = q := ⟨_, rfl⟩
          rw [hq] at c1 c0
          rw [hq2] at hsz c0
          rw [hq]
          clear hq hq2
          go_enter Tryd.func36, Tryd.ntmps36
          go_wp2_with (go_at_call 59; first | (with_reducible refine (c1.out _).mono ?_; rintro e w1 ⟨rfl, rfl⟩) | (with_reducible refine (c0.out _).mono ?_; rintro e w1 ⟨rfl, rfl⟩))
          go_ret2
          exact ⟨rfl, Upd.refl _ _⟩
        · have hU : unpackL (0 :: r) most = (r, 0) := by
            rw [← hm] at hl
            simp only [unpackL]
            rw [if_neg (by decide), if_neg hl, if_pos trivial]
          rw [hU]
          have HC : Hid (∀ w, Calls Tryd.prog 58 #[.string ⟨r.toArray⟩] w fun e w' => e = .returned (.string ⟨r.toArray⟩) ∧ Upd noBlock w w') := fun w => clone_anyZ _ w (by rw [sz_str]; omega)
          clear hU HU hs
          show Calls _ _ _ _ fun e w' => e = .returned (.tuple #[.string ⟨r.toArray⟩, .int .i64 0]) ∧ _
          obtain ⟨q, hq⟩ : ∃ q : ByteArray, ⟨(0 :: r).toArray⟩ = q := ⟨_, rfl⟩
          obtain ⟨q2, hq2⟩ : ∃ q : ByteArray, ⟨r.toArray⟩ = q := ⟨_, rfl⟩
          rw [hq] at c1 c0
          rw [hq2] at hsz c0 HC
          rw [hq, hq2]
          clear hq hq2
          go_enter Tryd.func36, Tryd.ntmps36
          go_wp2_with (first | (go_at_call 59; first | (with_reducible refine (c1.out _).mono ?_; rintro e w1 ⟨rfl, rfl⟩) | (with_reducible refine (c0.out _).mono ?_; rintro e w1 ⟨rfl, rfl⟩)) | (go_at_call 58; refine (HC.out _).mono ?_; rintro e w1 ⟨rfl, hu⟩))
          go_ret2
          exact ⟨rfl, hu⟩
      · have c0 := fun w => cut_any (c :: r) [0] false (c :: r) (hp_no 0 c r h0) (tp_no 0 c r h0) w
        have c0 := Lib.hid c0
        have hU : unpackL (c :: r) most = ([], 4) := by
          simp only [unpackL]
          rw [if_neg h1, if_neg h0]
        rw [hU]
        clear hU HU hs h0 h1
        obtain ⟨q, hq⟩ : ∃ q : ByteArray, ⟨(c :: r).toArray⟩ = q := ⟨_, rfl⟩
        rw [hq] at c1 c0
        rw [hq]
        clear hq
        go_enter Tryd.func36, Tryd.ntmps36
        go_wp2_with (go_at_call 59; first | (with_reducible refine (c1.out _).mono ?_; rintro e w1 ⟨rfl, rfl⟩) | (with_reducible refine (c0.out _).mono ?_; rintro e w1 ⟨rfl, rfl⟩))
        go_ret2
        exact ⟨rfl, Upd.refl _ _⟩

end Go.Proofs.YthlheamnfjjamaaDoor
