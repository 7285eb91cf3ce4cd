/- The document's Fits, flag, Good. -/
import Derived.Test.YthlheamnfjjamaaDoorOa
namespace Go.Proofs.YthlheamnfjjamaaDoor
open Go.RowKit Cm
attribute [local irreducible] beZ valN
set_option linter.unusedSimpArgs false

set_option maxRecDepth 20000 in
theorem refFits_any (n : Int) (w : World) : Calls Tryd.prog 19 #[.int .i64 n] w fun e w' => e = .returned (.bool (okN n)) ∧ w' = w := by
  by_cases h0 : 0 ≤ n
  · by_cases h1 : n ≤ 1099511627776
    · go_enter Tryd.func19, Tryd.ntmps19
      go_wp2_with fail
      go_ret
      exact ⟨by simp [okN, h0, h1], rfl⟩
    · go_enter Tryd.func19, Tryd.ntmps19
      go_wp2_with fail
      go_ret
      exact ⟨by have h2 : ¬ n ≤ 1099511627776 := by omega
                simp [okN, h2], rfl⟩
  · go_enter Tryd.func19, Tryd.ntmps19
    go_wp2_with fail
    go_ret
    exact ⟨by have h2 : ¬ 0 ≤ n := by omega
              simp [okN, h2], rfl⟩
set_option maxRecDepth 20000 in
theorem refFlag_any (b : Bool) (w : World) : Calls Tryd.prog 41 #[.bool b] w fun e w' => e = .returned (.int .i64 (if b then 1 else 0)) ∧ w' = w := by
  rcases b with _ | _
  all_goals
    go_enter Tryd.func41, Tryd.ntmps41
    go_wp2_with fail
    go_ret
    exact ⟨rfl, rfl⟩
set_option maxRecDepth 20000 in
set_option maxHeartbeats 3200000 in
theorem refGoodN_any (seq : Int) (gone last : Bool) (k v : List UInt8) (w : World) (hk : k.length ≤ maxLen) (hv : v.length ≤ maxLen) :
    Calls Tryd.prog 14 #[.agg #[.int .i64 seq, .bool gone, .bool last, .string ⟨k.toArray⟩, .string ⟨v.toArray⟩]] w fun e w' => e = .returned (.bool (goodN seq gone k v)) ∧ Upd noBlock w w' := by
  obtain ⟨qk, hqk⟩ : ∃ q : ByteArray, ⟨k.toArray⟩ = q := ⟨_, rfl⟩
  obtain ⟨qv, hqv⟩ : ∃ q : ByteArray, ⟨v.toArray⟩ = q := ⟨_, rfl⟩
  have hkz : qk.size = k.length := by rw [← hqk]; rfl
  have hvz : qv.size = v.length := by rw [← hqv]; rfl
  have hVN : Hid (¬ v = [] → qv.toList.isEmpty = false) := fun h => by rw [← hqv, emp_str]; simpa using h
  have hVE : Hid (v = [] → qv = ⟨#[]⟩) := fun h => by rw [← hqv, h]
  have hn1 : k.length ≤ 9223372036854775807 := by unfold maxLen at hk; omega
  have hn2 : v.length ≤ 9223372036854775807 := by unfold maxLen at hv; omega
  rw [hqk, hqv]
  have HB : Hid (Upd noBlock w (w.alloc (.cells #[.int .i64 seq, .bool gone, .bool last, .string qk, .string qv] 27))) := (Upd.refl _ _).alloc _
  have HV := Lib.hid (refFits_any seq)
  clear hqk hqv hk hv
  cases h0 : okN seq with
  | false =>
    rw [h0] at HV
    have hg : goodN seq gone k v = false := by simp [goodN, h0]
    rw [hg]
    clear hg
    go_enter Tryd.func14, Tryd.ntmps14
    go_wp2_with (go_at_call 19; with_reducible refine (HV.out _).mono ?_; rintro e w1 ⟨rfl, rfl⟩)
    go_ret
    exact ⟨by first | rfl | simp, HB.out⟩
  | true =>
    rw [h0] at HV
    by_cases hk1 : 1 ≤ k.length
    · by_cases hk2 : k.length ≤ 64
      · by_cases hv2 : v.length ≤ 200
        · rcases gone with _ | _
          · have hg : goodN seq false k v = true := by simp [goodN, h0, hk1, hk2, hv2]
            rw [hg]
            clear hg
            go_enter Tryd.func14, Tryd.ntmps14
            go_wp2_with (go_at_call 19; with_reducible refine (HV.out _).mono ?_; rintro e w1 ⟨rfl, rfl⟩)
            go_ret
            exact ⟨by first | rfl | simp, HB.out⟩
          · by_cases hve : v = []
            · have e2 := hVE.out hve
              subst e2
              have hg : goodN seq true k v = true := by simp [goodN, h0, hk1, hk2, hve]
              rw [hg]
              clear hg
              go_enter Tryd.func14, Tryd.ntmps14
              go_wp2_with (go_at_call 19; with_reducible refine (HV.out _).mono ?_; rintro e w1 ⟨rfl, rfl⟩)
              go_ret
              exact ⟨by first | rfl | simp, HB.out⟩
            · have e2 := hVN.out hve
              have hg : goodN seq true k v = false := by simp [goodN, hve]
              rw [hg]
              clear hg
              go_enter Tryd.func14, Tryd.ntmps14
              go_wp2_with (go_at_call 19; with_reducible refine (HV.out _).mono ?_; rintro e w1 ⟨rfl, rfl⟩)
              go_ret
              exact ⟨by first | rfl | simp, HB.out⟩
        · have hg : goodN seq gone k v = false := by simp [goodN, hv2]
          rw [hg]
          clear hg
          go_enter Tryd.func14, Tryd.ntmps14
          go_wp2_with (go_at_call 19; with_reducible refine (HV.out _).mono ?_; rintro e w1 ⟨rfl, rfl⟩)
          go_ret
          exact ⟨by first | rfl | simp, HB.out⟩
      · have hg : goodN seq gone k v = false := by simp [goodN, hk2]
        rw [hg]
        clear hg
        go_enter Tryd.func14, Tryd.ntmps14
        go_wp2_with (go_at_call 19; with_reducible refine (HV.out _).mono ?_; rintro e w1 ⟨rfl, rfl⟩)
        go_ret
        exact ⟨by first | rfl | simp, HB.out⟩
    · have hg : goodN seq gone k v = false := by simp [goodN, hk1]
      rw [hg]
      clear hg
      go_enter Tryd.func14, Tryd.ntmps14
      go_wp2_with (go_at_call 19; with_reducible refine (HV.out _).mono ?_; rintro e w1 ⟨rfl, rfl⟩)
      go_ret
      exact ⟨by first | rfl | simp, HB.out⟩
end Go.Proofs.YthlheamnfjjamaaDoor
