/- The document's Decode: behind the head. -/
import Derived.Test.YthlheamnfjjamaaDoorOr
namespace Go.Proofs.YthlheamnfjjamaaDoor
open Go.RowKit Cm
attribute [local irreducible] beZ valN Cm.shs Cm.nxt Cm.reg Cm.ext
attribute [local go_sem ↓] Go.wp_at_zero Go.wp_at_succ
set_option linter.unusedVariables false

theorem sl_q (q : ByteArray) (x y : Int) (a b : Nat) (hx : x = (a : Int)) (hy : y = (b : Int)) (h1 : a ≤ b) (h2 : b ≤ q.size) (w : World) : (Instr.slice 9 (.string q) (some (.int .i64 x)) (some (.int .i64 y)) none).run Tryd.prog w = .ok (.string (q.extract a b)) w := by
  subst hx hy
  rw [run_slice_string_if w 9 _ _ _ _ _ Tryd.underlying9, if_pos ⟨by omega, by omega⟩, if_pos ⟨by omega, by omega⟩]
  rfl
set_option maxRecDepth 20000 in
set_option maxHeartbeats 3200000 in
theorem rdec_cut (w : World) (q : ByteArray) (len : Nat) (hsz : q.size = len) (hn2 : len ≤ 4611686018427387904) (p : Nat) (h13 : p + 13 ≤ len) (hpq : p < q.size) (hc : (q[p]'hpq).toNat = 78) (kl b1 b2 : Nat) (hp10 : p + 10 < q.size) (hk : (q[p + 10]'hp10).toNat = kl) (hp11 : p + 11 < q.size) (h11 : (q[p + 11]'hp11).toNat = b1) (hp12 : p + 12 < q.size) (h12 : (q[p + 12]'hp12).toNat = b2) (hkb : kl < 256) (h1b : b1 < 256) (h2b : b2 < 256) (hlt : len < p + 13 + kl + (256 * b1 + b2) + 4) :
    Calls Tryd.prog 16 #[.string q, .int .i64 (p : Int)] w fun e w' => e = .returned (.tuple #[zeroV, .int .i64 0, .int .i64 60]) ∧ Upd noBlock w w' := by
  have hne : ((p : Int) == (len : Int)) = false := beq_eq_false_iff_ne.2 (by omega)
  have w11 : IntKind.i64.wrap ((p : Int) + 11) = (p : Int) + 11 := IntWalk.i64_in _ (by omega)
  have w12 : IntKind.i64.wrap ((p : Int) + 12) = (p : Int) + 12 := IntWalk.i64_in _ (by omega)
  have wm : IntKind.i64.wrap (256 * (b1 : Int)) = 256 * (b1 : Int) := IntWalk.i64_in _ (by omega)
  have ws : IntKind.i64.wrap (256 * (b1 : Int) + (b2 : Int)) = 256 * (b1 : Int) + (b2 : Int) := IntWalk.i64_in _ (by omega)
  have a11 : (0 : Int) ≤ (p : Int) + 11 := by omega
  have a12 : (0 : Int) ≤ (p : Int) + 12 := by omega
  have g11 : (p : Int) + 11 < (len : Int) := by omega
  have g12 : (p : Int) + 12 < (len : Int) := by omega
  have t11 : ((p : Int) + 11).toNat = p + 11 := by omega
  have t12 : ((p : Int) + 12).toNat = p + 12 := by omega
  go_enter Tryd.func16, Tryd.ntmps16
  go_wp2_with fail
  go_quiet (fail)
  go_wp2_with fail
  exact fin_rnode3 rfl rfl rfl rfl rfl (set5 (W := (w.alloc _).drewN _) (heap_alloc_new w _) rfl _ _ _ _ _) ⟨rfl, upd5 (((Upd.refl _ w).alloc _).drewN _) (Nat.le_refl _) _ _ _ _ _⟩
theorem zero_factsR {w W : World} (h : Upd noBlock (w.alloc (.cells #[.int .i64 0, .bool false, .bool false, .string ⟨#[]⟩, .string ⟨#[]⟩] 27)) W) : W.heap[w.heap.size]? = some (.cells #[.int .i64 0, .bool false, .bool false, .string ⟨#[]⟩, .string ⟨#[]⟩] 27 (0, 0)) ∧ (∀ i, W.cell? ⟨w.heap.size, i, none⟩ = #[Value.int .i64 0, .bool false, .bool false, .string ⟨#[]⟩, .string ⟨#[]⟩][i]?) ∧ (∀ i, W.frozen? ⟨w.heap.size, i, none⟩ = false) ∧ Upd noBlock w W :=
  have a := h.cells (heap_alloc_new w _) (fun h => h)
  ⟨a, fun i => cell_of a i, fun i => free_of a i, ((Upd.refl _ _).alloc _).trans h⟩
set_option maxRecDepth 20000 in
set_option maxHeartbeats 3200000 in
theorem rdec_sum (w : World) (q : ByteArray) (len : Nat) (hsz : q.size = len) (hn2 : len ≤ 4611686018427387904) (p : Nat) (h13 : p + 13 ≤ len) (hpq : p < q.size) (hc : (q[p]'hpq).toNat = 78) (kl b1 b2 : Nat) (hp10 : p + 10 < q.size) (hk : (q[p + 10]'hp10).toNat = kl) (hp11 : p + 11 < q.size) (h11 : (q[p + 11]'hp11).toNat = b1) (hp12 : p + 12 < q.size) (h12 : (q[p + 12]'hp12).toNat = b2) (hkb : kl < 256) (h1b : b1 < 256) (h2b : b2 < 256) (vl : Nat) (hvl : vl = 256 * b1 + b2) (hle : p + 13 + kl + vl + 4 ≤ len) (qs qe qS : ByteArray) (hqs : q.extract p (p + 13 + kl + vl) = qs) (hqe : q.extract p (p + 13 + kl + vl + 4) = qe) (HSL : Hid (∀ W, Calls Tryd.prog 26 #[.string qs] W fun e w' => e = .returned (.string qS) ∧ Upd noBlock W w')) (hsb : (qS.toList == qe.toList) = false) :
    Calls Tryd.prog 16 #[.string q, .int .i64 (p : Int)] w fun e w' => e = .returned (.tuple #[zeroV, .int .i64 0, .int .i64 61]) ∧ Upd noBlock w w' := by
  have w11 : IntKind.i64.wrap ((p : Int) + 11) = (p : Int) + 11 := IntWalk.i64_in _ (by omega)
  have w12 : IntKind.i64.wrap ((p : Int) + 12) = (p : Int) + 12 := IntWalk.i64_in _ (by omega)
  have hne : ((p : Int) == (len : Int)) = false := beq_eq_false_iff_ne.2 (by omega)
  have wm : IntKind.i64.wrap (256 * (b1 : Int)) = 256 * (b1 : Int) := IntWalk.i64_in _ (by omega)
  have ws : IntKind.i64.wrap (256 * (b1 : Int) + (b2 : Int)) = (vl : Int) := by rw [IntWalk.i64_in _ (by omega)]; omega
  have a11 : (0 : Int) ≤ (p : Int) + 11 := by omega
  have a12 : (0 : Int) ≤ (p : Int) + 12 := by omega
  have g11 : (p : Int) + 11 < (len : Int) := by omega
  have g12 : (p : Int) + 12 < (len : Int) := by omega
  have t11 : ((p : Int) + 11).toNat = p + 11 := by omega
  have t12 : ((p : Int) + 12).toNat = p + 12 := by omega
  have wx : IntKind.i64.wrap ((p : Int) + 13 + (kl : Int) + (vl : Int) + 4) = (p : Int) + 13 + (kl : Int) + (vl : Int) + 4 := IntWalk.i64_in _ (by omega)
  have s1 := sl_q q (p : Int) ((p : Int) + 13 + (kl : Int) + (vl : Int)) p (p + 13 + kl + vl) rfl (by omega) (by omega) (by omega)
  have s2 := sl_q q (p : Int) ((p : Int) + 13 + (kl : Int) + (vl : Int) + 4) p (p + 13 + kl + vl + 4) rfl (by omega) (by omega) (by omega)
  rw [hqs] at s1
  rw [hqe] at s2
  clear hqs hqe hvl
  go_enter Tryd.func16, Tryd.ntmps16
  go_wp2_with fail
  go_quiet (fail)
  have HW0 : Hid (Upd noBlock (w.alloc (.cells #[.int .i64 0, .bool false, .bool false, .string ⟨#[]⟩, .string ⟨#[]⟩] 27)) ((w.alloc (.cells #[.int .i64 0, .bool false, .bool false, .string ⟨#[]⟩, .string ⟨#[]⟩] 27)).drewN nq)) := (Upd.refl _ _).drewN _
  generalize (w.alloc (.cells #[.int .i64 0, .bool false, .bool false, .string ⟨#[]⟩, .string ⟨#[]⟩] 27)).drewN nq = WW at *
  go_wp2_with fail
  go_region_with (go_at_call 26; (with_reducible refine (HSL.out _).mono ?_); rintro e w1 ⟨rfl, h⟩; (first | replace h := Upd.undrew h | skip); have HX := Lib.hid (HW0.out.trans h); obtain ⟨_, rc, rf, _⟩ := zero_factsR HX.out; clear h)
  all_goals
    go_wp2_with fail
    exact fin_rnode3 rfl rfl rfl rfl rfl (set5 (by first | exact (zero_factsR HX.out).1 | exact (zero_factsR HX.out.drew).1) rfl _ _ _ _ _) ⟨rfl, upd5 (by first | exact (zero_factsR HX.out).2.2.2 | exact (zero_factsR HX.out.drew).2.2.2) (Nat.le_refl _) _ _ _ _ _⟩
end Go.Proofs.YthlheamnfjjamaaDoor
