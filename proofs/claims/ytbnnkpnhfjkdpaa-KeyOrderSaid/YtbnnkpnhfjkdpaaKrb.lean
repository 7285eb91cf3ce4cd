/- KeyOrder, the first valid. -/
import Derived.Test.YtbnnkpnhfjkdpaaKr
import Derived.Laws.Cover1
import Derived.Deep.DrawnRows
namespace Go.Proofs.Ytbnnkpnhfjkdpaa
open Go.RowKit
attribute [local irreducible] beZ valN
attribute [local go_sem ↓] Go.wp_at_zero Go.wp_at_succ
set_option linter.unusedVariables false

set_option maxRecDepth 20000 in
set_option maxHeartbeats 4000000 in
theorem keyOrder_tf (a0 a1 a2 b0 b1 b2 : Int) (q0 q1 qs qt qx qy q8 q9 q9' : ByteArray) (L E G1 G2 : Bool) (w : World)
    (HEa : Hid (∀ W : World, Calls Try.prog 10 #[.agg #[.int .i64 a0, .int .i64 a1, .string q0, .int .i64 a2]] W fun e w' => e = .returned (.tuple #[.string qs, .bool true]) ∧ Upd noBlock W w')) (HEb : Hid (∀ W : World, Calls Try.prog 10 #[.agg #[.int .i64 b0, .int .i64 b1, .string q1, .int .i64 b2]] W fun e w' => e = .returned (.tuple #[.string qt, .bool false]) ∧ Upd noBlock W w'))
    (HR : Hid (∀ W : World, Calls Try.prog 15 #[.int .i64 a0, .int .i64 a1] W fun e w' => e = .returned (.tuple #[.string qx, .string qy, .bool true]) ∧ Upd noBlock W w'))
    (p0 : 0 ≤ a0) (p1 : a0 ≤ 1099511627776) (p2 : 1 ≤ a1) (p3 : a1 ≤ 3) (hz8 : q8.size = 8) (hz9 : q9.size = 1) (hz9' : q9'.size = 1) (hx : q8 ++ q9 = qx) (hy : q8 ++ q9' = qy)
    (HB8 : Hid (∀ W : World, Calls Try.prog 16 #[.int .i64 a0, .int .i64 8] W fun e w' => e = .returned (.string q8) ∧ Upd noBlock W w'))
    (HB1 : Hid (∀ W : World, Calls Try.prog 16 #[.int .i64 a1, .int .i64 1] W fun e w' => e = .returned (.string q9) ∧ Upd noBlock W w'))
    (HC1 : Hid (∀ W : World, Calls Try.prog 16 #[.int .i64 (a1 + 1), .int .i64 1] W fun e w' => e = .returned (.string q9') ∧ Upd noBlock W w'))
    : Calls Try.prog 5 #[.agg #[.int .i64 a0, .int .i64 a1, .int .i64 a2], .agg #[.int .i64 b0, .int .i64 b1, .int .i64 b2], .agg #[.string q0, .string q1]] w fun e w' => e = .returned (.bool true) ∧ Upd noBlock w w' := by
  have HS := Lib.hid speaks_any
  have HM1 := Lib.hid (made_any a0 a1 a2 q0)
  have HM2 := Lib.hid (made_any b0 b1 b2 q1)
  have HF0 := Lib.hid (fun W h => box3_facts w W #[.int .i64 a0, .int .i64 a1, .int .i64 a2] #[.int .i64 b0, .int .i64 b1, .int .i64 b2] #[.string q0, .string q1] 22 22 37 h)
  have hwa : IntKind.i64.wrap (a1 + 1) = a1 + 1 := by rw [IntKind.wrap_i64]; omega
  go_enter Try.func5, Try.ntmps5
  go_wp2_with (first
    | (go_at_call 8; with_reducible refine (HS.out _).mono ?_; rintro e w1 ⟨rfl, h⟩; have H1 := Lib.hid h; obtain ⟨x1, x2, x3⟩ := HF0.out _ h; clear h)
    | (go_at_call 9; with_reducible refine (HM1.out _).mono ?_; rintro e w2 ⟨rfl, h⟩; have H2 := Lib.hid (H1.out.trans h); obtain ⟨y1, y2, y3⟩ := HF0.out _ (((H1.out.trans h).alloc (.cells #[.int .i64 a0, .int .i64 a1, .string q0, .int .i64 a2] 25)).alloc (.cells #[.int .i64 a0, .int .i64 a1, .string q0, .int .i64 a2] 26)); clear h)
    | (go_at_call 9; with_reducible refine (HM2.out _).mono ?_; rintro e w3 ⟨rfl, h⟩; have H3 := Lib.hid h; have HK := Lib.hid (fun W hu => ko_facts w w2 w3 W #[.int .i64 a0, .int .i64 a1, .int .i64 a2] #[.int .i64 b0, .int .i64 b1, .int .i64 b2] #[.string q0, .string q1] #[.int .i64 a0, .int .i64 a1, .string q0, .int .i64 a2] #[.int .i64 a0, .int .i64 a1, .string q0, .int .i64 a2] #[.int .i64 b0, .int .i64 b1, .string q1, .int .i64 b2] #[.int .i64 b0, .int .i64 b1, .string q1, .int .i64 b2] _ _ _ H2.out h hu); have HFIN := Lib.hid (fun W hu => ko_upd w w2 w3 W #[.int .i64 a0, .int .i64 a1, .int .i64 a2] #[.int .i64 b0, .int .i64 b1, .int .i64 b2] #[.string q0, .string q1] #[.int .i64 a0, .int .i64 a1, .string q0, .int .i64 a2] #[.int .i64 a0, .int .i64 a1, .string q0, .int .i64 a2] #[.int .i64 b0, .int .i64 b1, .string q1, .int .i64 b2] #[.int .i64 b0, .int .i64 b1, .string q1, .int .i64 b2] _ _ _ H2.out h hu); have HW := Lib.hid (Upd.refl noBlock ((w3.alloc (.cells #[.int .i64 b0, .int .i64 b1, .string q1, .int .i64 b2] 25)).alloc (.cells #[.int .i64 b0, .int .i64 b1, .string q1, .int .i64 b2] 26))); obtain ⟨z1, z2, z3, z4, z5⟩ := HK.out _ HW.out; clear h)
    | (go_at_call 10; with_reducible refine (HEa.out _).mono ?_; rintro e w4 ⟨rfl, h⟩; have HW := Lib.hid (HW.out.trans h); obtain ⟨c1, c2, c3, c4, c5⟩ := HK.out _ HW.out; clear h)
    | (go_at_call 10; with_reducible refine (HEb.out _).mono ?_; rintro e w5 ⟨rfl, h⟩; have HW := Lib.hid (HW.out.trans h); obtain ⟨d1, d2, d3, d4, d5⟩ := HK.out _ HW.out; clear h)
    | (go_at_call 15; with_reducible refine (HR.out _).mono ?_; rintro e w7 ⟨rfl, h⟩; have HW := Lib.hid (HW.out.trans h); obtain ⟨f1, f2, f3, f4, f5⟩ := HK.out _ HW.out; clear h))
  go_region_with ((first
    | (go_at_call 16; with_reducible refine (HB8.out _).mono ?_; rintro e w8 ⟨rfl, h⟩; (first | (have HW := Lib.hid (HW.out.trans h)) | (have HW := Lib.hid (HW.out.drew.trans h))); obtain ⟨g1, g2, g3, g4, g5⟩ := HK.out _ HW.out; clear h)
    | (go_at_call 16; with_reducible refine (HB1.out _).mono ?_; rintro e w9 ⟨rfl, h⟩; (first | (have HW := Lib.hid (HW.out.trans h)) | (have HW := Lib.hid (HW.out.drew.trans h))); obtain ⟨i1, i2, i3, i4, i5⟩ := HK.out _ HW.out; clear h)
    | (go_at_call 16; with_reducible refine (HC1.out _).mono ?_; rintro e w10 ⟨rfl, h⟩; (first | (have HW := Lib.hid (HW.out.trans h)) | (have HW := Lib.hid (HW.out.drew.trans h))); obtain ⟨j1, j2, j3, j4, j5⟩ := HK.out _ HW.out; clear h)))
  all_goals
    go_wp2_with fail
    all_goals
      go_ret
      exact ⟨rfl, HFIN.out _ HW.out⟩
end Go.Proofs.Ytbnnkpnhfjkdpaa
