/- The document's Decode: behind the sum. -/
import Derived.Test.YthlheamnfjjamaaDoorOs
import Derived.Deep.DrawnRows
import Derived.Deep.RegionHeld3
namespace Go.Proofs.YthlheamnfjjamaaDoor
open Go.RowKit Cm
attribute [local irreducible] beZ valN Cm.shs Cm.nxt Cm.reg Cm.ext
attribute [local go_sem ↓] Go.wp_at_zero Go.wp_at_succ
set_option linter.unusedVariables false

set_option maxRecDepth 20000 in
set_option maxHeartbeats 25600000 in
theorem rdec_rest (w : World) (q : ByteArray) (len : Nat) (hsz : q.size = len) (hn2 : len ≤ 4611686018427387904) (p : Nat) (h13 : p + 13 ≤ len) (hpq : p < q.size) (hc : (q[p]'hpq).toNat = 78) (kl b1 b2 : Nat) (hp10 : p + 10 < q.size) (hk : (q[p + 10]'hp10).toNat = kl) (hp11 : p + 11 < q.size) (h11 : (q[p + 11]'hp11).toNat = b1) (hp12 : p + 12 < q.size) (h12 : (q[p + 12]'hp12).toNat = b2) (hkb : kl < 256) (h1b : b1 < 256) (h2b : b2 < 256) (vl : Nat) (hvl : vl = 256 * b1 + b2) (hle : p + 13 + kl + vl + 4 ≤ len) (qs qe qS : ByteArray) (hqs : q.extract p (p + 13 + kl + vl) = qs) (hqe : q.extract p (p + 13 + kl + vl + 4) = qe) (HSL : Hid (∀ W, Calls Tryd.prog 26 #[.string qs] W fun e w' => e = .returned (.string qS) ∧ Upd noBlock W w')) (hsb : (qS.toList == qe.toList) = true)
    (hp1 : p + 1 < q.size) (f : Nat) (hf : (q[p + 1]'hp1).toNat = f) (hfb : f < 256) (qn qk qv : ByteArray) (hqn : q.extract (p + 2) (p + 10) = qn) (hqk : q.extract (p + 13) (p + 13 + kl) = qk) (hqv : q.extract (p + 13 + kl) (p + 13 + kl + vl) = qv) (n : Int) (HN : Hid (∀ W, Calls Tryd.prog 23 #[.string qn] W fun e w' => e = .returned (.int .i64 n) ∧ w' = W))
    (gb : Bool) (HG : Hid (∀ W, Calls Tryd.prog 14 #[.agg #[.int .i64 n, .bool (f % 2 == 1), .bool (f / 2 % 2 == 1), .string qk, .string qv]] W fun e w' => e = .returned (.bool gb) ∧ Upd noBlock W w')) :
    Calls Tryd.prog 16 #[.string q, .int .i64 (p : Int)] w fun e w' => e = .returned (if (decide (f < 4) && gb) = true then .tuple #[.agg #[.int .i64 n, .bool (f % 2 == 1), .bool (f / 2 % 2 == 1), .string qk, .string qv], .int .i64 ((p : Int) + 13 + (kl : Int) + (vl : Int) + 4), .int .i64 0] else .tuple #[zeroV, .int .i64 0, .int .i64 4]) ∧ Upd noBlock w w' := by
  have w11 : IntKind.i64.wrap ((p : Int) + 11) = (p : Int) + 11 := IntWalk.i64_in _ (by omega)
  have w12 : IntKind.i64.wrap ((p : Int) + 12) = (p : Int) + 12 := IntWalk.i64_in _ (by omega)
  have hne : ((p : Int) == (len : Int)) = false := beq_eq_false_iff_ne.2 (by omega)
  have wm : IntKind.i64.wrap (256 * (b1 : Int)) = 256 * (b1 : Int) := IntWalk.i64_in _ (by omega)
  have ws : IntKind.i64.wrap (256 * (b1 : Int) + (b2 : Int)) = (vl : Int) := by rw [IntWalk.i64_in _ (by omega)]; omega
  have a11 : (0 : Int) ≤ (p : Int) + 11 := by omega
  have a12 : (0 : Int) ≤ (p : Int) + 12 := by omega
  have g11 : (p : Int) + 11 < (len : Int) := by omega
  have g12 : (p : Int) + 12 < (len : Int) := by omega
  have t11 : ((p : Int) + 11).toNat = p + 11 := by omega
  have t12 : ((p : Int) + 12).toNat = p + 12 := by omega
  have wx : IntKind.i64.wrap ((p : Int) + 13 + (kl : Int) + (vl : Int) + 4) = (p : Int) + 13 + (kl : Int) + (vl : Int) + 4 := IntWalk.i64_in _ (by omega)
  have s1 := sl_q q (p : Int) ((p : Int) + 13 + (kl : Int) + (vl : Int)) p (p + 13 + kl + vl) rfl (by omega) (by omega) (by omega)
  have s2 := sl_q q (p : Int) ((p : Int) + 13 + (kl : Int) + (vl : Int) + 4) p (p + 13 + kl + vl + 4) rfl (by omega) (by omega) (by omega)
  have s3 := sl_q q ((p : Int) + 2) ((p : Int) + 10) (p + 2) (p + 10) rfl rfl (by omega) (by omega)
  have s4 := sl_q q ((p : Int) + 13) ((p : Int) + 13 + (kl : Int)) (p + 13) (p + 13 + kl) rfl (by omega) (by omega) (by omega)
  have s5 := sl_q q ((p : Int) + 13 + (kl : Int)) ((p : Int) + 13 + (kl : Int) + (vl : Int)) (p + 13 + kl) (p + 13 + kl + vl) (by omega) (by omega) (by omega) (by omega)
  have v1 : IntKind.i64.wrap ((p : Int) + 1) = (p : Int) + 1 := IntWalk.i64_in _ (by omega)
  have v2 : IntKind.i64.wrap ((p : Int) + 2) = (p : Int) + 2 := IntWalk.i64_in _ (by omega)
  have v10 : IntKind.i64.wrap ((p : Int) + 10) = (p : Int) + 10 := IntWalk.i64_in _ (by omega)
  have v13 : IntKind.i64.wrap ((p : Int) + 13) = (p : Int) + 13 := IntWalk.i64_in _ (by omega)
  have v13k : IntKind.i64.wrap ((p : Int) + 13 + (kl : Int)) = (p : Int) + 13 + (kl : Int) := IntWalk.i64_in _ (by omega)
  have a1 : (0 : Int) ≤ (p : Int) + 1 := by omega
  have g1' : (p : Int) + 1 < (len : Int) := by omega
  have t1 : ((p : Int) + 1).toNat = p + 1 := by omega
  have x1 : (f : Int).tmod 2 = (f : Int) % 2 := Int.tmod_eq_emod_of_nonneg (by omega)
  have x2 : (f : Int).tdiv 2 = (f : Int) / 2 := Int.tdiv_eq_ediv_of_nonneg (by omega)
  have x3 : ((f : Int) / 2).tmod 2 = (f : Int) / 2 % 2 := Int.tmod_eq_emod_of_nonneg (by omega)
  have x4 : IntKind.u8.wrap ((f : Int) / 2) = (f : Int) / 2 := IntWalk.u8_in _ (by omega)
  rw [hqs] at s1
  rw [hqe] at s2
  rw [hqn] at s3
  rw [hqk] at s4
  rw [hqv] at s5
  have m1 : ((f : Int) % 2 == 1) = (f % 2 == 1) := by rw [Bool.eq_iff_iff, beq_iff_eq, beq_iff_eq]; omega
  have m2 : ((f : Int) / 2 % 2 == 1) = (f / 2 % 2 == 1) := by rw [Bool.eq_iff_iff, beq_iff_eq, beq_iff_eq]; omega
  obtain ⟨R, hR⟩ : ∃ R, (if (decide (f < 4) && gb) = true then Value.tuple #[.agg #[.int .i64 n, .bool (f % 2 == 1), .bool (f / 2 % 2 == 1), .string qk, .string qv], .int .i64 ((p : Int) + 13 + (kl : Int) + (vl : Int) + 4), .int .i64 0] else .tuple #[zeroV, .int .i64 0, .int .i64 4]) = R := ⟨_, rfl⟩
  rw [hR]
  have HR := Lib.hid hR
  clear hqs hqe hqn hqk hqv hvl hR
  go_enter Tryd.func16, Tryd.ntmps16
  go_wp2_with fail
  go_quiet (fail)
  have HW0 : Hid (Upd noBlock (w.alloc (.cells #[.int .i64 0, .bool false, .bool false, .string ⟨#[]⟩, .string ⟨#[]⟩] 27)) ((w.alloc (.cells #[.int .i64 0, .bool false, .bool false, .string ⟨#[]⟩, .string ⟨#[]⟩] 27)).drewN nq)) := (Upd.refl _ _).drewN _
  generalize (w.alloc (.cells #[.int .i64 0, .bool false, .bool false, .string ⟨#[]⟩, .string ⟨#[]⟩] 27)).drewN nq = WW at *
  go_wp2_with fail
  go_cut [81] from 71 to 81 (fun c wx => c = .bool false ∧ Hid (Upd noBlock (w.alloc (.cells #[.int .i64 0, .bool false, .bool false, .string ⟨#[]⟩, .string ⟨#[]⟩] 27)) wx))
  case first =>
    go_region_with (go_at_call 26; (with_reducible refine (HSL.out _).mono ?_); rintro e w1 ⟨rfl, h⟩; (first | replace h := Upd.undrew h | skip); have HX := Lib.hid (HW0.out.trans h); clear h)
    all_goals
      go_wp2_with fail
      go_meet
      exact ⟨rfl, by first | exact HX | exact HX.out.drew⟩
  case rest =>
    obtain ⟨rfl, HX⟩ := hcut
    go_wp2_with fail
    have HP0 : Hid (∃ P, P = wc.heap.size) := ⟨_, rfl⟩
    go_cut [10] from 83 to 118 (fun c wx => c = .pointer (some ⟨wc.heap.size, 0, none⟩) ∧ wx = (wc.alloc (.cells #[.int .i64 n, .bool (f % 2 == 1), .bool (f / 2 % 2 == 1), .string qk, .string qv] 27)).drew)
    case first =>
      clear HSL HG HR HX HW0 hsb s1 s2 wm ws wx w11 w12 a11 a12 g11 g12 t11 t12 hk h11 h12 hc
      go_region_held3 (fun _ => True) (trivial) (first | (go_at_call 23; (with_reducible refine (HN.out _).mono ?_); rintro e w2 ⟨rfl, rfl⟩))
      all_goals
        go_wp2_with fail
        go_meet
        exact ⟨rfl, rfl⟩
    case rest =>
      obtain ⟨rfl, rfl⟩ := hcut
      have HX1 : Hid (Upd noBlock (w.alloc (.cells #[.int .i64 0, .bool false, .bool false, .string ⟨#[]⟩, .string ⟨#[]⟩] 27)) (wc.alloc (.cells #[.int .i64 n, .bool (f % 2 == 1), .bool (f / 2 % 2 == 1), .string qk, .string qv] 27)).drew) := (HX.out.alloc _).drew
      have z1 : (wc.alloc (.cells #[.int .i64 n, .bool (f % 2 == 1), .bool (f / 2 % 2 == 1), .string qk, .string qv] 27)).drew.heap[wc.heap.size]? = some (.cells #[.int .i64 n, .bool (f % 2 == 1), .bool (f / 2 % 2 == 1), .string qk, .string qv] 27 (0, 0)) := heap_alloc_new wc _
      generalize (wc.alloc (.cells #[.int .i64 n, .bool (f % 2 == 1), .bool (f / 2 % 2 == 1), .string qk, .string qv] 27)).drew = W2 at *
      generalize wc.heap.size = d at *
      obtain ⟨_, rc, rf, HU2⟩ := zero_factsR HX1.out
      have HU2' := Lib.hid HU2
      clear HU2
      have k7 := fun i => cell_of z1 i
      by_cases h4 : f < 4
      · have h3 : ¬ (3 : Int) < (f : Int) := by omega
        have HGW := Lib.hid (HG.out W2)
        have hr : R = if gb = true then Value.tuple #[.agg #[.int .i64 n, .bool (f % 2 == 1), .bool (f / 2 % 2 == 1), .string qk, .string qv], .int .i64 ((p : Int) + 13 + (kl : Int) + (vl : Int) + 4), .int .i64 0] else .tuple #[zeroV, .int .i64 0, .int .i64 4] := by
          rw [← HR.out, decide_eq_true h4, Bool.true_and]
        have HRR := Lib.hid hr
        have Z1 := Lib.hid z1
        clear hr z1
        cases gb with
        | true =>
          go_wp2_with (go_at_call 14; (with_reducible refine HGW.out.mono ?_); rintro e w3 ⟨rfl, h⟩; have HX3 := Lib.hid (HX1.out.trans h); obtain ⟨_, rc3, rf3, _⟩ := zero_factsR HX3.out; have k73 := fun i => cell_of (h.cells Z1.out (fun h => h)) i; clear h)
          exact fin_rnode3 rfl rfl rfl rfl rfl (set5 (zero_factsR HX3.out).1 rfl _ _ _ _ _) ⟨by rw [HRR.out]; rfl, upd5 (zero_factsR HX3.out).2.2.2 (Nat.le_refl _) _ _ _ _ _⟩
        | false =>
          go_wp2_with (go_at_call 14; (with_reducible refine HGW.out.mono ?_); rintro e w3 ⟨rfl, h⟩; have HX3 := Lib.hid (HX1.out.trans h); obtain ⟨_, rc3, rf3, _⟩ := zero_factsR HX3.out; clear h)
          exact fin_rnode3 rfl rfl rfl rfl rfl (set5 (zero_factsR HX3.out).1 rfl _ _ _ _ _) ⟨by rw [HRR.out]; rfl, upd5 (zero_factsR HX3.out).2.2.2 (Nat.le_refl _) _ _ _ _ _⟩
      · have h3 : (3 : Int) < (f : Int) := by omega
        have HRR : Hid (R = .tuple #[zeroV, .int .i64 0, .int .i64 4]) := by
          show _ = _
          rw [← HR.out, decide_eq_false h4]; rfl
        go_wp2_with fail
        exact fin_rnode3 rfl rfl rfl rfl rfl (set5 (zero_factsR HX1.out).1 rfl _ _ _ _ _) ⟨by rw [HRR.out]; rfl, upd5 (zero_factsR HX1.out).2.2.2 (Nat.le_refl _) _ _ _ _ _⟩
end Go.Proofs.YthlheamnfjjamaaDoor
