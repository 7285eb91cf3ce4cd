/- node.Decode, each way. -/
import Derived.Test.YthlheamnfjjamaaDoorOd
import Derived.Test.YthlheamnfjjamaaDoorCh
namespace Go.Proofs.YthlheamnfjjamaaDoor
open Go.RowKit Cm
attribute [local irreducible] beZ valN
attribute [local go_sem ↓] Go.wp_at_zero Go.wp_at_succ
set_option linter.unusedVariables false

theorem ret_cell3 {P : Program} {fn : Func} {p u v : Tmp} {ty : TypeId} (h : fn.results = #[.cell p ty, .tmp u, .tmp v]) (tmps : Array Value) (w : World) (g : Nat) (t : TypeId) (cs : Array Value) (fr : Nat × Nat) (d : TypeDesc) (b c : Value)
    (hp : tmps.getD p undef = .pointer (some ⟨g, 0, none⟩)) (hg : w.heap[g]? = some (.cells cs t fr))
    (hu : P.underlying ty = some d) (hd : (match d with | .struct _ | .array _ _ => true | _ => false) = true) (hi : (P.info? ty).map (·.size) = some cs.size) (hb : tmps.getD u undef = b) (hc : tmps.getD v undef = c) :
    (results fn tmps).run P w = .ok (.tuple #[.agg cs, b, c]) w := by
  have e1 : tmps[p]?.getD undef = .pointer (some ⟨g, 0, none⟩) := by simpa using hp
  have e2 : tmps[u]?.getD undef = b := by simpa using hb
  have e3 : tmps[v]?.getD undef = c := by simpa using hc
  have y1 := run_loadVar_row (P := P) w g t ty cs fr d hg hu hd hi
  simp only [results, h]
  simp [Result.andThen, e1, e2, e3, asAddr, y1]
theorem fin_node3 {fn : Func} {p u v : Tmp} (h : fn.results = #[.cell p 26, .tmp u, .tmp v]) {a : Act} {W : World} {g : Nat} {k0 k1 k2 k3 k4 b c : Value} {R : Ending → World → Prop} (hp : a.tmps.getD p undef = .pointer (some ⟨g, 0, none⟩)) (hb : a.tmps.getD u undef = b) (hc : a.tmps.getD v undef = c) (hd : a.defers = [])
    (hg : W.heap[g]? = some (.cells #[k0, k1, k2, k3, k4] 26 (0, 0))) (hR : R (.returned (.tuple #[.agg #[k0, k1, k2, k3, k4], b, c])) W) : bodyPost Tryd.prog fn R .ret a W :=
  bodyPost_ret_by (ret_cell3 h _ _ g _ #[k0, k1, k2, k3, k4] _ _ b c hp hg Tryd.underlying26 rfl nodeInfo hb hc) hd hR
theorem zero_facts (w W : World) (h : Upd noBlock (w.alloc (.cells #[.int .i64 0, .bool false, .bool false, .string ⟨#[]⟩, .string ⟨#[]⟩] 26)) W) : W.heap[w.heap.size]? = some (.cells #[.int .i64 0, .bool false, .bool false, .string ⟨#[]⟩, .string ⟨#[]⟩] 26 (0, 0)) ∧ (∀ i, W.cell? ⟨w.heap.size, i, none⟩ = (#[.int .i64 0, .bool false, .bool false, .string ⟨#[]⟩, .string ⟨#[]⟩] : Array Value)[i]?) ∧ (∀ i, W.frozen? ⟨w.heap.size, i, none⟩ = false) :=
  have a := h.cells (heap_alloc_new w _) (fun h => h)
  ⟨a, fun i => cell_of a i, fun i => free_of a i⟩
set_option maxRecDepth 20000 in
set_option maxHeartbeats 3200000 in
theorem dec_neg (w : World) (q : ByteArray) (len : Nat) (hsz : q.size = len) (hn : len ≤ 281474976710656) (hn2 : len ≤ 9223372036854775807) (a : Int) (h0 : a < 0) :
    Calls Tryd.prog 15 #[.string q, .int .i64 a] w fun e w' => e = .returned (.tuple #[.agg #[.int .i64 0, .bool false, .bool false, .string ⟨#[]⟩, .string ⟨#[]⟩], .int .i64 0, .int .i64 1]) ∧ Upd noBlock w w' := by
  have HX : Hid (Upd noBlock (w.alloc (.cells #[.int .i64 0, .bool false, .bool false, .string ⟨#[]⟩, .string ⟨#[]⟩] 26)) (w.alloc (.cells #[.int .i64 0, .bool false, .bool false, .string ⟨#[]⟩, .string ⟨#[]⟩] 26))) := Upd.refl _ _
  go_enter Tryd.func15, Tryd.ntmps15
  go_wp2_with fail
  all_goals exact fin_node3 rfl rfl rfl rfl rfl (heap_alloc_new w _) ⟨rfl, (Upd.refl _ _).alloc _⟩
set_option maxRecDepth 20000 in
set_option maxHeartbeats 3200000 in
theorem dec_far (w : World) (q : ByteArray) (len : Nat) (hsz : q.size = len) (hn : len ≤ 281474976710656) (hn2 : len ≤ 9223372036854775807) (a : Int) (h0 : ¬ a < 0) (h1 : (len : Int) < a) :
    Calls Tryd.prog 15 #[.string q, .int .i64 a] w fun e w' => e = .returned (.tuple #[.agg #[.int .i64 0, .bool false, .bool false, .string ⟨#[]⟩, .string ⟨#[]⟩], .int .i64 0, .int .i64 1]) ∧ Upd noBlock w w' := by
  have HX : Hid (Upd noBlock (w.alloc (.cells #[.int .i64 0, .bool false, .bool false, .string ⟨#[]⟩, .string ⟨#[]⟩] 26)) (w.alloc (.cells #[.int .i64 0, .bool false, .bool false, .string ⟨#[]⟩, .string ⟨#[]⟩] 26))) := Upd.refl _ _
  go_enter Tryd.func15, Tryd.ntmps15
  go_wp2_with fail
  all_goals exact fin_node3 rfl rfl rfl rfl rfl (heap_alloc_new w _) ⟨rfl, (Upd.refl _ _).alloc _⟩
set_option maxRecDepth 20000 in
set_option maxHeartbeats 3200000 in
theorem dec_end (w : World) (q : ByteArray) (len : Nat) (hsz : q.size = len) (hn : len ≤ 281474976710656) (hn2 : len ≤ 9223372036854775807) (a : Nat) (qr : ByteArray) (rl : Nat) (h1 : a ≤ len) (h1' : ¬ (len : Int) < (a : Int)) (hx : q.extract a len = qr) (hrz : qr.size = rl) (hrl : rl ≤ len) (hrl2 : rl ≤ 9223372036854775807) (hre : qr.toList.isEmpty = true) :
    Calls Tryd.prog 15 #[.string q, .int .i64 (a : Int)] w fun e w' => e = .returned (.tuple #[.agg #[.int .i64 0, .bool false, .bool false, .string ⟨#[]⟩, .string ⟨#[]⟩], .int .i64 0, .int .i64 3]) ∧ Upd noBlock w w' := by
  have HX : Hid (Upd noBlock (w.alloc (.cells #[.int .i64 0, .bool false, .bool false, .string ⟨#[]⟩, .string ⟨#[]⟩] 26)) (w.alloc (.cells #[.int .i64 0, .bool false, .bool false, .string ⟨#[]⟩, .string ⟨#[]⟩] 26))) := Upd.refl _ _
  go_enter Tryd.func15, Tryd.ntmps15
  go_wp2_with fail
  all_goals exact fin_node3 rfl rfl rfl rfl rfl (heap_alloc_new w _) ⟨rfl, (Upd.refl _ _).alloc _⟩
set_option maxRecDepth 20000 in
set_option maxHeartbeats 3200000 in
theorem dec_nought (w : World) (q : ByteArray) (len : Nat) (hsz : q.size = len) (hn : len ≤ 281474976710656) (hn2 : len ≤ 9223372036854775807) (a : Nat) (qr : ByteArray) (rl : Nat) (h1 : a ≤ len) (h1' : ¬ (len : Int) < (a : Int)) (hx : q.extract a len = qr) (hrz : qr.size = rl) (hrl : rl ≤ len) (hrl2 : rl ≤ 9223372036854775807) (hre : qr.toList.isEmpty = false) (hr0 : 0 < qr.size) (m : Nat) (hm : (qr[0]'hr0).toNat = m) (hm0 : ((m : Int) == 0) = true) :
    Calls Tryd.prog 15 #[.string q, .int .i64 (a : Int)] w fun e w' => e = .returned (.tuple #[.agg #[.int .i64 0, .bool false, .bool false, .string ⟨#[]⟩, .string ⟨#[]⟩], .int .i64 0, .int .i64 3]) ∧ Upd noBlock w w' := by
  have HX : Hid (Upd noBlock (w.alloc (.cells #[.int .i64 0, .bool false, .bool false, .string ⟨#[]⟩, .string ⟨#[]⟩] 26)) (w.alloc (.cells #[.int .i64 0, .bool false, .bool false, .string ⟨#[]⟩, .string ⟨#[]⟩] 26))) := Upd.refl _ _
  go_enter Tryd.func15, Tryd.ntmps15
  go_wp2_with fail
  all_goals exact fin_node3 rfl rfl rfl rfl rfl (heap_alloc_new w _) ⟨rfl, (Upd.refl _ _).alloc _⟩
set_option maxRecDepth 20000 in
set_option maxHeartbeats 3200000 in
theorem dec_form (w : World) (q : ByteArray) (len : Nat) (hsz : q.size = len) (hn : len ≤ 281474976710656) (hn2 : len ≤ 9223372036854775807) (a : Nat) (qr : ByteArray) (rl : Nat) (h1 : a ≤ len) (h1' : ¬ (len : Int) < (a : Int)) (hx : q.extract a len = qr) (hrz : qr.size = rl) (hrl : rl ≤ len) (hrl2 : rl ≤ 9223372036854775807) (hre : qr.toList.isEmpty = false) (hr0 : 0 < qr.size) (m : Nat) (hm : (qr[0]'hr0).toNat = m) (hm0 : ((m : Int) == 0) = false) (HP : Hid (∀ W : World, Calls Tryd.prog 42 #[.string qr, .string ⟨#[78]⟩] W fun e w' => e = .returned (.bool false) ∧ w' = W)) :
    Calls Tryd.prog 15 #[.string q, .int .i64 (a : Int)] w fun e w' => e = .returned (.tuple #[.agg #[.int .i64 0, .bool false, .bool false, .string ⟨#[]⟩, .string ⟨#[]⟩], .int .i64 0, .int .i64 4]) ∧ Upd noBlock w w' := by
  have HX : Hid (Upd noBlock (w.alloc (.cells #[.int .i64 0, .bool false, .bool false, .string ⟨#[]⟩, .string ⟨#[]⟩] 26)) (w.alloc (.cells #[.int .i64 0, .bool false, .bool false, .string ⟨#[]⟩, .string ⟨#[]⟩] 26))) := Upd.refl _ _
  go_enter Tryd.func15, Tryd.ntmps15
  go_wp2_with (go_at_call 42; with_reducible refine (HP.out _).mono ?_; rintro e w1 ⟨rfl, rfl⟩)
  all_goals exact fin_node3 rfl rfl rfl rfl rfl (heap_alloc_new w _) ⟨rfl, (Upd.refl _ _).alloc _⟩
end Go.Proofs.YthlheamnfjjamaaDoor
