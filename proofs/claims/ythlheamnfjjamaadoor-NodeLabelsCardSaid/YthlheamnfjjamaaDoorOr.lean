/- The document's Decode. -/
import Derived.Test.YthlheamnfjjamaaDoorOq
import Derived.Test.YthlheamnfjjamaaDoorOn
import Derived.Test.YthlheamnfjjamaaDoorCg
import Derived.Deep.QuietTactic
import Derived.BigQuiet
import Derived.StillTailTactics
namespace Go.Proofs.YthlheamnfjjamaaDoor
open Go.RowKit Cm
attribute [local irreducible] beZ valN Cm.shs Cm.nxt Cm.reg Cm.ext
attribute [local go_sem ↓] Go.wp_at_zero Go.wp_at_succ
set_option linter.unusedVariables false

theorem rnodeInfo : (Tryd.prog.info? 27).map (·.size) = some 5 := by kernel_rfl
theorem fin_rnode3 {fn : Func} {p u v : Tmp} (h : fn.results = #[.cell p 27, .tmp u, .tmp v]) {a : Act} {W : World} {g : Nat} {k0 k1 k2 k3 k4 b c : Value} {R : Ending → World → Prop} (hp : a.tmps.getD p undef = .pointer (some ⟨g, 0, none⟩)) (hb : a.tmps.getD u undef = b) (hc : a.tmps.getD v undef = c) (hd : a.defers = [])
    (hg : W.heap[g]? = some (.cells #[k0, k1, k2, k3, k4] 27 (0, 0))) (hR : R (.returned (.tuple #[.agg #[k0, k1, k2, k3, k4], b, c])) W) : bodyPost Tryd.prog fn R .ret a W :=
  bodyPost_ret_by (ret_cell3 h _ _ g _ #[k0, k1, k2, k3, k4] _ _ b c hp hg Tryd.underlying27 rfl rnodeInfo hb hc) hd hR
set_option maxRecDepth 20000 in
set_option maxHeartbeats 3200000 in
theorem rdec_arg (w : World) (q : ByteArray) (len : Nat) (hsz : q.size = len) (hn2 : len ≤ 9223372036854775807) (a : Int) (h0 : a < 0 ∨ (0 ≤ a ∧ (len : Int) < a)) :
    Calls Tryd.prog 16 #[.string q, .int .i64 a] w fun e w' => e = .returned (.tuple #[zeroV, .int .i64 0, .int .i64 1]) ∧ Upd noBlock w w' := by
  rcases h0 with h0 | ⟨h0, h1⟩
  all_goals
    go_enter Tryd.func16, Tryd.ntmps16
    go_wp2_with fail
    exact fin_rnode3 rfl rfl rfl rfl rfl (heap_alloc_new w _) ⟨rfl, (Upd.refl _ _).alloc _⟩
set_option maxRecDepth 20000 in
set_option maxHeartbeats 3200000 in
theorem rdec_end (w : World) (q : ByteArray) (len : Nat) (hsz : q.size = len) (hn2 : len ≤ 9223372036854775807) :
    Calls Tryd.prog 16 #[.string q, .int .i64 (len : Int)] w fun e w' => e = .returned (.tuple #[zeroV, .int .i64 0, .int .i64 3]) ∧ Upd noBlock w w' := by
  go_enter Tryd.func16, Tryd.ntmps16
  go_wp2_with fail
  exact fin_rnode3 rfl rfl rfl rfl rfl (heap_alloc_new w _) ⟨rfl, (Upd.refl _ _).alloc _⟩
set_option maxRecDepth 20000 in
set_option maxHeartbeats 3200000 in
/-- the first byte is a nought, or no N, or the head is not whole -/
theorem rdec_head (w : World) (q : ByteArray) (len : Nat) (hsz : q.size = len) (hn2 : len ≤ 4611686018427387904) (p : Nat) (hp : p < len) (hpq : p < q.size) (c : Nat) (hc : (q[p]'hpq).toNat = c) (k : Int) (hk : c = 0 ∧ k = 3 ∨ (c ≠ 0 ∧ c ≠ 78) ∧ k = 4 ∨ (c = 78 ∧ len < p + 13) ∧ k = 60) :
    Calls Tryd.prog 16 #[.string q, .int .i64 (p : Int)] w fun e w' => e = .returned (.tuple #[zeroV, .int .i64 0, .int .i64 k]) ∧ Upd noBlock w w' := by
  have hne : ((p : Int) == (len : Int)) = false := beq_eq_false_iff_ne.2 (by omega)
  rcases hk with ⟨rfl, rfl⟩ | ⟨⟨h1, h2⟩, rfl⟩ | ⟨⟨rfl, h2⟩, rfl⟩
  · go_enter Tryd.func16, Tryd.ntmps16
    go_wp2_with fail
    exact fin_rnode3 rfl rfl rfl rfl rfl (heap_alloc_new w _) ⟨rfl, (Upd.refl _ _).alloc _⟩
  · have e1 : ((c : Int) == 0) = false := beq_eq_false_iff_ne.2 (by omega)
    have e2 : ((c : Int) == 78) = false := beq_eq_false_iff_ne.2 (by omega)
    go_enter Tryd.func16, Tryd.ntmps16
    go_wp2_with fail
    exact fin_rnode3 rfl rfl rfl rfl rfl (heap_alloc_new w _) ⟨rfl, (Upd.refl _ _).alloc _⟩
  · go_enter Tryd.func16, Tryd.ntmps16
    go_wp2_with fail
    exact fin_rnode3 rfl rfl rfl rfl rfl (heap_alloc_new w _) ⟨rfl, (Upd.refl _ _).alloc _⟩
end Go.Proofs.YthlheamnfjjamaaDoor
