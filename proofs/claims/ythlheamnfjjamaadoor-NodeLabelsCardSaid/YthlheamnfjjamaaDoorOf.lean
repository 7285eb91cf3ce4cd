/- node.Decode, too short, a wrong sum. -/
import Derived.Test.YthlheamnfjjamaaDoorOe
namespace Go.Proofs.YthlheamnfjjamaaDoor
open Go.RowKit Cm
attribute [local irreducible] beZ valN
attribute [local go_sem ↓] Go.wp_at_zero Go.wp_at_succ
set_option linter.unusedVariables false

set_option maxRecDepth 20000 in
set_option maxHeartbeats 3200000 in
theorem dec_short (w : World) (q : ByteArray) (len : Nat) (hsz : q.size = len) (hn : len ≤ 281474976710656) (hn2 : len ≤ 9223372036854775807) (a : Nat) (qr : ByteArray) (rl : Nat) (h1 : a ≤ len) (h1' : ¬ (len : Int) < (a : Int)) (hx : q.extract a len = qr) (hrz : qr.size = rl) (hrl : rl ≤ len) (hrl2 : rl ≤ 9223372036854775807) (hre : qr.toList.isEmpty = false) (hr0 : 0 < qr.size) (m : Nat) (hm : (qr[0]'hr0).toNat = m) (hm0 : ((m : Int) == 0) = false) (HP : Hid (∀ W : World, Calls Tryd.prog 42 #[.string qr, .string ⟨#[78]⟩] W fun e w' => e = .returned (.bool true) ∧ w' = W)) (sz : Nat) (HS : Hid (∀ W : World, Calls Tryd.prog 43 #[.string qr] W fun e w' => e = .returned (.tuple #[.int .i64 (sz : Int), .bool false]) ∧ Upd noBlock W w')) :
    Calls Tryd.prog 15 #[.string q, .int .i64 (a : Int)] w fun e w' => e = .returned (.tuple #[.agg #[.int .i64 0, .bool false, .bool false, .string ⟨#[]⟩, .string ⟨#[]⟩], .int .i64 0, .int .i64 60]) ∧ Upd noBlock w w' := by
  have HX : Hid (Upd noBlock (w.alloc (.cells #[.int .i64 0, .bool false, .bool false, .string ⟨#[]⟩, .string ⟨#[]⟩] 26)) (w.alloc (.cells #[.int .i64 0, .bool false, .bool false, .string ⟨#[]⟩, .string ⟨#[]⟩] 26))) := Upd.refl _ _
  go_enter Tryd.func15, Tryd.ntmps15
  go_wp2_with (first | (go_at_call 42; with_reducible refine (HP.out _).mono ?_; rintro e w1 ⟨rfl, rfl⟩) | (go_at_call 43; with_reducible refine (HS.out _).mono ?_; rintro e w2 ⟨rfl, h⟩; have HX := Lib.hid (HX.out.trans h); obtain ⟨_, rc, rf⟩ := zero_facts w _ HX.out; clear h))
  all_goals exact fin_node3 rfl rfl rfl rfl rfl (set5 (zero_facts w _ HX.out).1 rfl _ _ _ _ _) ⟨rfl, upd5 (((Upd.refl _ w).alloc _).trans HX.out) (Nat.le_refl _) _ _ _ _ _⟩
set_option maxRecDepth 20000 in
set_option maxHeartbeats 3200000 in
theorem dec_cut (w : World) (q : ByteArray) (len : Nat) (hsz : q.size = len) (hn : len ≤ 281474976710656) (hn2 : len ≤ 9223372036854775807) (a : Nat) (qr : ByteArray) (rl : Nat) (h1 : a ≤ len) (h1' : ¬ (len : Int) < (a : Int)) (hx : q.extract a len = qr) (hrz : qr.size = rl) (hrl : rl ≤ len) (hrl2 : rl ≤ 9223372036854775807) (hre : qr.toList.isEmpty = false) (hr0 : 0 < qr.size) (m : Nat) (hm : (qr[0]'hr0).toNat = m) (hm0 : ((m : Int) == 0) = false) (HP : Hid (∀ W : World, Calls Tryd.prog 42 #[.string qr, .string ⟨#[78]⟩] W fun e w' => e = .returned (.bool true) ∧ w' = W)) (sz : Nat) (HS : Hid (∀ W : World, Calls Tryd.prog 43 #[.string qr] W fun e w' => e = .returned (.tuple #[.int .i64 (sz : Int), .bool true]) ∧ Upd noBlock W w')) (hlt : (rl : Int) < (sz : Int)) :
    Calls Tryd.prog 15 #[.string q, .int .i64 (a : Int)] w fun e w' => e = .returned (.tuple #[.agg #[.int .i64 0, .bool false, .bool false, .string ⟨#[]⟩, .string ⟨#[]⟩], .int .i64 0, .int .i64 60]) ∧ Upd noBlock w w' := by
  have HX : Hid (Upd noBlock (w.alloc (.cells #[.int .i64 0, .bool false, .bool false, .string ⟨#[]⟩, .string ⟨#[]⟩] 26)) (w.alloc (.cells #[.int .i64 0, .bool false, .bool false, .string ⟨#[]⟩, .string ⟨#[]⟩] 26))) := Upd.refl _ _
  go_enter Tryd.func15, Tryd.ntmps15
  go_wp2_with (first | (go_at_call 42; with_reducible refine (HP.out _).mono ?_; rintro e w1 ⟨rfl, rfl⟩) | (go_at_call 43; with_reducible refine (HS.out _).mono ?_; rintro e w2 ⟨rfl, h⟩; have HX := Lib.hid (HX.out.trans h); obtain ⟨_, rc, rf⟩ := zero_facts w _ HX.out; clear h))
  all_goals exact fin_node3 rfl rfl rfl rfl rfl (set5 (zero_facts w _ HX.out).1 rfl _ _ _ _ _) ⟨rfl, upd5 (((Upd.refl _ w).alloc _).trans HX.out) (Nat.le_refl _) _ _ _ _ _⟩
set_option maxRecDepth 20000 in
set_option maxHeartbeats 3200000 in
theorem dec_sum (w : World) (q : ByteArray) (len : Nat) (hsz : q.size = len) (hn : len ≤ 281474976710656) (hn2 : len ≤ 9223372036854775807) (a : Nat) (qr : ByteArray) (rl : Nat) (h1 : a ≤ len) (h1' : ¬ (len : Int) < (a : Int)) (hx : q.extract a len = qr) (hrz : qr.size = rl) (hrl : rl ≤ len) (hrl2 : rl ≤ 9223372036854775807) (hre : qr.toList.isEmpty = false) (hr0 : 0 < qr.size) (m : Nat) (hm : (qr[0]'hr0).toNat = m) (hm0 : ((m : Int) == 0) = false) (HP : Hid (∀ W : World, Calls Tryd.prog 42 #[.string qr, .string ⟨#[78]⟩] W fun e w' => e = .returned (.bool true) ∧ w' = W)) (sz : Nat) (HS : Hid (∀ W : World, Calls Tryd.prog 43 #[.string qr] W fun e w' => e = .returned (.tuple #[.int .i64 (sz : Int), .bool true]) ∧ Upd noBlock W w')) (hlt : ¬ (rl : Int) < (sz : Int)) (hle : sz ≤ rl) (qz : ByteArray) (hxz : qr.extract 0 sz = qz) (HT : Hid (∀ W, Upd noBlock (w.alloc (.cells #[.int .i64 0, .bool false, .bool false, .string ⟨#[]⟩, .string ⟨#[]⟩] 26)) W → Tab W)) (qt : ByteArray) (HO : Hid (∀ W : World, Tab W → Calls Tryd.prog 44 #[.string qz] W fun e w' => e = .returned (.tuple #[.string qt, .bool false]) ∧ Upd noBlock W w')) :
    Calls Tryd.prog 15 #[.string q, .int .i64 (a : Int)] w fun e w' => e = .returned (.tuple #[.agg #[.int .i64 0, .bool false, .bool false, .string ⟨#[]⟩, .string ⟨#[]⟩], .int .i64 0, .int .i64 61]) ∧ Upd noBlock w w' := by
  have HX : Hid (Upd noBlock (w.alloc (.cells #[.int .i64 0, .bool false, .bool false, .string ⟨#[]⟩, .string ⟨#[]⟩] 26)) (w.alloc (.cells #[.int .i64 0, .bool false, .bool false, .string ⟨#[]⟩, .string ⟨#[]⟩] 26))) := Upd.refl _ _
  go_enter Tryd.func15, Tryd.ntmps15
  go_wp2_with (first | (go_at_call 42; with_reducible refine (HP.out _).mono ?_; rintro e w1 ⟨rfl, rfl⟩) | (go_at_call 43; with_reducible refine (HS.out _).mono ?_; rintro e w2 ⟨rfl, h⟩; have HX := Lib.hid (HX.out.trans h); obtain ⟨_, rc, rf⟩ := zero_facts w _ HX.out; clear h) | (go_at_call 44; refine (HO.out _ (HT.out _ HX.out)).mono ?_; rintro e w3 ⟨rfl, h⟩; have HX := Lib.hid (HX.out.trans h); obtain ⟨_, rc, rf⟩ := zero_facts w _ HX.out; clear h))
  all_goals exact fin_node3 rfl rfl rfl rfl rfl (set5 (zero_facts w _ HX.out).1 rfl _ _ _ _ _) ⟨rfl, upd5 (((Upd.refl _ w).alloc _).trans HX.out) (Nat.le_refl _) _ _ _ _ _⟩
end Go.Proofs.YthlheamnfjjamaaDoor
