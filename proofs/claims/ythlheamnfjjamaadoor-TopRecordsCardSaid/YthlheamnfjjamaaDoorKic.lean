/- key.Decode, a piece's text. -/
import Derived.Test.YthlheamnfjjamaaDoorKi
namespace Go.Proofs.YthlheamnfjjamaaDoor
open Go.RowKit
attribute [local irreducible] beZ valN
set_option linter.unusedVariables false
attribute [local go_sem ↓] Go.wp_at_zero Go.wp_at_succ

set_option maxRecDepth 20000 in
set_option maxHeartbeats 3200000 in
theorem decode_k3 (l : List UInt8) (q q8 q9 qe : ByteArray) (m len : Nat) (n p : Int) (g e : Bool) (w : World) (htl : q.toList = l) (hat : ∀ h : 8 < q.size, (q[8]'h).toNat = m) (hx8 : q.extract 0 8 = q8) (hx9 : q.extract 9 len = q9)
    (hge : g = true → (qe.toList == q.toList) = e) (hqz : qe.size ≤ 281474976710700) (h9 : 9 ≤ len) (hsz : q.size = len) (hn : len ≤ 9223372036854775807) (hnl : ¬ (len : Int) < 9)
    (hw1 : IntKind.i64.wrap (m : Int) = (m : Int)) (hw2 : wrap64 (m : Int) = (m : Int))
    (HO8 : Hid (∀ W : World, Calls Tryd.prog 48 #[.string q8] W fun e w' => e = .returned (.int .i64 n) ∧ w' = W))
    (HEN : Hid (∀ W : World, Calls Tryd.prog 33 #[.agg #[.int .i64 n, .int .i64 (m : Int), .string ⟨#[]⟩, .int .i64 p]] W fun e w' => e = .returned (.tuple #[.string qe, .bool g]) ∧ Upd noBlock W w'))
    (HO9 : Hid (∀ W : World, Calls Tryd.prog 48 #[.string q9] W fun e w' => e = .returned (.int .i64 p) ∧ w' = W))
    (h2 : ((m : Int) == 2) = false) (h3 : ((m : Int) == 3) = true) :
    Calls Tryd.prog 35 #[.string q] w fun e' w' => e' = .returned (.tuple #[if (g && e) = true then .agg #[.int .i64 n, .int .i64 (m : Int), .string ⟨#[]⟩, .int .i64 p] else .agg #[.int .i64 0, .int .i64 0, .string ⟨[].toArray⟩, .int .i64 0], .bool (g && e)]) ∧ Upd noBlock w w' := by
  rcases g with _ | _
  · rw [Bool.false_and, if_neg (by decide)]
    clear hge
    go_enter Tryd.func35, Tryd.ntmps35
    go_wp2_with fail
    go_region_with (go_at_call 48; with_reducible refine (HO8.out _).mono ?_; rintro e w1 ⟨rfl, rfl⟩)
    all_goals
      go_wp2_with (first | (go_at_call 48; with_reducible refine (HO9.out _).mono ?_; rintro e w1 ⟨rfl, rfl⟩) | (go_at_call 33; with_reducible refine (HEN.out _).mono ?_; rintro e w2 ⟨rfl, h⟩; have HT := Lib.hid ((TB.new w _).upd h); obtain ⟨c2, f2, f1, c1⟩ := HT.out.facts; clear h))
      obtain ⟨t1, t2⟩ := HT.out.done (.int .i64 0) (.int .i64 0) (.string ⟨#[]⟩) (.int .i64 0)
      exact fin_key rfl rfl rfl rfl t1 ⟨rfl, t2⟩
  · rw [Bool.true_and]
    have hee := hge rfl
    rw [htl] at hee
    clear hge
    rcases e with _ | _
    · rw [if_neg (by decide)]
      go_enter Tryd.func35, Tryd.ntmps35
      go_wp2_with fail
      go_region_with (go_at_call 48; with_reducible refine (HO8.out _).mono ?_; rintro e w1 ⟨rfl, rfl⟩)
      all_goals
        go_wp2_with (first | (go_at_call 48; with_reducible refine (HO9.out _).mono ?_; rintro e w1 ⟨rfl, rfl⟩) | (go_at_call 33; with_reducible refine (HEN.out _).mono ?_; rintro e w2 ⟨rfl, h⟩; have HT := Lib.hid ((TB.new w _).upd h); obtain ⟨c2, f2, f1, c1⟩ := HT.out.facts; clear h))
        obtain ⟨t1, t2⟩ := HT.out.done (.int .i64 0) (.int .i64 0) (.string ⟨#[]⟩) (.int .i64 0)
        exact fin_key rfl rfl rfl rfl t1 ⟨rfl, t2⟩
    · rw [if_pos rfl]
      go_enter Tryd.func35, Tryd.ntmps35
      go_wp2_with fail
      go_region_with (go_at_call 48; with_reducible refine (HO8.out _).mono ?_; rintro e w1 ⟨rfl, rfl⟩)
      all_goals
        go_wp2_with (first | (go_at_call 48; with_reducible refine (HO9.out _).mono ?_; rintro e w1 ⟨rfl, rfl⟩) | (go_at_call 33; with_reducible refine (HEN.out _).mono ?_; rintro e w2 ⟨rfl, h⟩; have HT := Lib.hid ((TB.new w _).upd h); obtain ⟨c2, f2, f1, c1⟩ := HT.out.facts; clear h))
        obtain ⟨t1, t2⟩ := HT.out.done (.int .i64 n) (.int .i64 (m : Int)) (.string ⟨#[]⟩) (.int .i64 p)
        exact fin_key rfl rfl rfl rfl t1 ⟨rfl, t2⟩

end Go.Proofs.YthlheamnfjjamaaDoor
