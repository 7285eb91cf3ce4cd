/- KeyNames, numbers that are replaced. -/
import Derived.Test.YtbnnkpnhfjkdpaaKq
namespace Go.Proofs.Ytbnnkpnhfjkdpaa
open Go.RowKit
attribute [local irreducible] beZ valN
set_option linter.unusedVariables false

set_option maxRecDepth 20000 in
set_option maxHeartbeats 3200000 in
theorem keyNames_o4 (n p : Int) (l0 l1 : List UInt8) (q0 q1 qi qp qn qa qb : ByteArray) (g0 g1 B : Bool) (w : World) (h0 : ¬ n < 0) (h1 : ¬ 1099511627776 ≤ n) (h2 : ¬ p < 0) (h3 : 4294967296 ≤ p) (F : NF 5 6 7 l0 l1 qi qp qn qa qb q0 q1 g0 g1 B) :
    Calls Try.prog 6 #[.int .i64 n, .agg #[.string q0, .string q1], .int .i64 p] w fun e w' => e = .returned (.bool true) ∧ Upd noBlock w w' := by
  obtain ⟨ci, cp, cn, ca, cb, ip, pn, ie, ai, bi, ab, q01⟩ := F
  have HS := Lib.hid speaks_any
  have HI := Lib.hid ci
  have HP := Lib.hid cp
  have HN := Lib.hid cn
  have HF := Lib.hid (fun W => name_facts w W #[.string q0, .string q1] 37)
  have HU : Hid (Upd noBlock w (w.alloc (.cells #[.string q0, .string q1] 37))) := (Upd.refl _ _).alloc _
  clear ci cp cn
  rcases g0 with _ | _
  · clear ai ab
    rcases g1 with _ | _
    · clear bi
      have HA := Lib.hid ca
      have HB := Lib.hid cb
      clear ca cb
      go_enter Try.func6, Try.ntmps6
      go_wp2_with (first
        | (go_at_call 8; with_reducible refine (HS.out _).mono ?_; rintro e w1 ⟨rfl, h⟩; have HW := Lib.hid h; clear h)
        | (go_at_call 10; with_reducible refine (HI.out _).mono ?_; rintro e w2 ⟨rfl, h⟩; have HW := Lib.hid (HW.out.trans h); clear h)
        | (go_at_call 10; with_reducible refine (HP.out _).mono ?_; rintro e w3 ⟨rfl, h⟩; have HW := Lib.hid (HW.out.trans h); clear h)
        | (go_at_call 10; with_reducible refine (HN.out _).mono ?_; rintro e w4 ⟨rfl, h⟩; have HW := Lib.hid (HW.out.trans h); have c1 := HF.out _ HW.out; clear h)
        | (go_at_call 10; with_reducible refine (HA.out _).mono ?_; rintro e w5 ⟨rfl, h⟩; have HW := Lib.hid (HW.out.trans h); have c2 := HF.out _ HW.out; clear h)
        | (go_at_call 10; with_reducible refine (HB.out _).mono ?_; rintro e w6 ⟨rfl, h⟩; have HW := Lib.hid (HW.out.trans h); have c3 := HF.out _ HW.out; clear h))
      go_ret
      exact ⟨rfl, HU.out.trans HW.out⟩
    · obtain ⟨b1, b2, b3⟩ := bi rfl
      have HA := Lib.hid ca
      have HB := Lib.hid cb
      clear ca cb bi
      go_enter Try.func6, Try.ntmps6
      go_wp2_with (first
        | (go_at_call 8; with_reducible refine (HS.out _).mono ?_; rintro e w1 ⟨rfl, h⟩; have HW := Lib.hid h; clear h)
        | (go_at_call 10; with_reducible refine (HI.out _).mono ?_; rintro e w2 ⟨rfl, h⟩; have HW := Lib.hid (HW.out.trans h); clear h)
        | (go_at_call 10; with_reducible refine (HP.out _).mono ?_; rintro e w3 ⟨rfl, h⟩; have HW := Lib.hid (HW.out.trans h); clear h)
        | (go_at_call 10; with_reducible refine (HN.out _).mono ?_; rintro e w4 ⟨rfl, h⟩; have HW := Lib.hid (HW.out.trans h); have c1 := HF.out _ HW.out; clear h)
        | (go_at_call 10; with_reducible refine (HA.out _).mono ?_; rintro e w5 ⟨rfl, h⟩; have HW := Lib.hid (HW.out.trans h); have c2 := HF.out _ HW.out; clear h)
        | (go_at_call 10; with_reducible refine (HB.out _).mono ?_; rintro e w6 ⟨rfl, h⟩; have HW := Lib.hid (HW.out.trans h); have c3 := HF.out _ HW.out; clear h))
      go_ret
      exact ⟨rfl, HU.out.trans HW.out⟩
  · obtain ⟨a1, a2, a3⟩ := ai rfl
    rcases g1 with _ | _
    · clear bi ai ab
      have HA := Lib.hid ca
      have HB := Lib.hid cb
      clear ca cb
      go_enter Try.func6, Try.ntmps6
      go_wp2_with (first
        | (go_at_call 8; with_reducible refine (HS.out _).mono ?_; rintro e w1 ⟨rfl, h⟩; have HW := Lib.hid h; clear h)
        | (go_at_call 10; with_reducible refine (HI.out _).mono ?_; rintro e w2 ⟨rfl, h⟩; have HW := Lib.hid (HW.out.trans h); clear h)
        | (go_at_call 10; with_reducible refine (HP.out _).mono ?_; rintro e w3 ⟨rfl, h⟩; have HW := Lib.hid (HW.out.trans h); clear h)
        | (go_at_call 10; with_reducible refine (HN.out _).mono ?_; rintro e w4 ⟨rfl, h⟩; have HW := Lib.hid (HW.out.trans h); have c1 := HF.out _ HW.out; clear h)
        | (go_at_call 10; with_reducible refine (HA.out _).mono ?_; rintro e w5 ⟨rfl, h⟩; have HW := Lib.hid (HW.out.trans h); have c2 := HF.out _ HW.out; clear h)
        | (go_at_call 10; with_reducible refine (HB.out _).mono ?_; rintro e w6 ⟨rfl, h⟩; have HW := Lib.hid (HW.out.trans h); have c3 := HF.out _ HW.out; clear h))
      go_ret
      exact ⟨rfl, HU.out.trans HW.out⟩
    · obtain ⟨b1, b2, b3⟩ := bi rfl
      have hab := ab rfl rfl
      have HA := Lib.hid ca
      have HB := Lib.hid cb
      clear ca cb bi ai ab
      go_enter Try.func6, Try.ntmps6
      go_wp2_with (first
        | (go_at_call 8; with_reducible refine (HS.out _).mono ?_; rintro e w1 ⟨rfl, h⟩; have HW := Lib.hid h; clear h)
        | (go_at_call 10; with_reducible refine (HI.out _).mono ?_; rintro e w2 ⟨rfl, h⟩; have HW := Lib.hid (HW.out.trans h); clear h)
        | (go_at_call 10; with_reducible refine (HP.out _).mono ?_; rintro e w3 ⟨rfl, h⟩; have HW := Lib.hid (HW.out.trans h); clear h)
        | (go_at_call 10; with_reducible refine (HN.out _).mono ?_; rintro e w4 ⟨rfl, h⟩; have HW := Lib.hid (HW.out.trans h); have c1 := HF.out _ HW.out; clear h)
        | (go_at_call 10; with_reducible refine (HA.out _).mono ?_; rintro e w5 ⟨rfl, h⟩; have HW := Lib.hid (HW.out.trans h); have c2 := HF.out _ HW.out; clear h)
        | (go_at_call 10; with_reducible refine (HB.out _).mono ?_; rintro e w6 ⟨rfl, h⟩; have HW := Lib.hid (HW.out.trans h); have c3 := HF.out _ HW.out; clear h))
      go_ret
      exact ⟨rfl, HU.out.trans HW.out⟩
end Go.Proofs.Ytbnnkpnhfjkdpaa
