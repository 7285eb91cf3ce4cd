/- made; speaks. -/
import Derived.Test.YtbnnkpnhfjkdpaaKl
namespace Go.Proofs.Ytbnnkpnhfjkdpaa
open Go.RowKit
attribute [local irreducible] beZ valN
attribute [local go_sem ↓] Go.wp_at_zero Go.wp_at_succ

theorem refInfo : (Try.prog.info? 26).map (·.size) = some 4 := by kernel_rfl
theorem ret_two {fn : Func} {p u : Tmp} (h : fn.results = #[.cell p 25, .cell u 26]) (tmps : Array Value) (w : World) (g g' : Nat) (k0 k1 k2 k3 r0 r1 r2 r3 : Value)
    (hp : tmps.getD p undef = .pointer (some ⟨g, 0, none⟩)) (hg : w.heap[g]? = some (.cells #[k0, k1, k2, k3] 25 (0, 0)))
    (hp' : tmps.getD u undef = .pointer (some ⟨g', 0, none⟩)) (hg' : w.heap[g']? = some (.cells #[r0, r1, r2, r3] 26 (0, 0))) :
    (results fn tmps).run Try.prog w = .ok (.tuple #[.agg #[k0, k1, k2, k3], .agg #[r0, r1, r2, r3]]) w := by
  have e1 : tmps[p]?.getD undef = .pointer (some ⟨g, 0, none⟩) := by simpa using hp
  have e2 : tmps[u]?.getD undef = .pointer (some ⟨g', 0, none⟩) := by simpa using hp'
  have y1 := run_loadVar_row (P := Try.prog) w g 25 25 #[k0, k1, k2, k3] (0, 0) _ hg Try.underlying25 rfl keyInfo
  have y2 := run_loadVar_row (P := Try.prog) w g' 26 26 #[r0, r1, r2, r3] (0, 0) _ hg' Try.underlying26 rfl refInfo
  simp only [results, h]
  simp [Sem.run_bind, Result.andThen, e1, e2, asAddr, y1, y2]
set_option maxRecDepth 20000 in
set_option maxHeartbeats 3200000 in
theorem made_any (a b c : Int) (q : ByteArray) (w : World) :
    Calls Try.prog 9 #[.agg #[.int .i64 a, .int .i64 b, .int .i64 c], .string q] w fun e w' => e = .returned (.tuple #[.agg #[.int .i64 a, .int .i64 b, .string q, .int .i64 c], .agg #[.int .i64 a, .int .i64 b, .string q, .int .i64 c]]) ∧ Upd noBlock w w' := by
  go_enter Try.func9, Try.ntmps9
  go_wp2_with fail
  go_region
  go_wp2_with fail
  refine bodyPost_ret_by (ret_two rfl _ _ (w.heap.size + 1) (w.heap.size + 1 + 1) _ _ _ _ _ _ _ _ rfl ?_ rfl ?_) rfl ⟨rfl, ((((Upd.refl _ _).alloc _).alloc _).alloc _).drew⟩
  · exact block_alloc (heap_alloc2_new w _ _) _
  · have h := heap_alloc_new ((w.alloc (.cells #[.int .i64 a, .int .i64 b, .int .i64 c] 22)).alloc (.cells #[.int .i64 a, .int .i64 b, .string q, .int .i64 c] 25)) (.cells #[.int .i64 a, .int .i64 b, .string q, .int .i64 c] 26)
    rw [World.size_alloc, World.size_alloc] at h
    exact h
set_option maxRecDepth 20000 in
theorem speaks_any (w : World) : Calls Try.prog 8 #[] w fun e w' => e = .returned (.bool true) ∧ Upd noBlock w w' := by
  have h := fun W => Encode_any 1 3 [] 2 W (by simp [maxLen])
  have e1 : goodK 1 3 [] 2 = true := by decide
  have e2 : (⟨(if goodK 1 3 [] 2 = true then encK 1 3 [] 2 else []).toArray⟩ : ByteArray) = ⟨#[0, 0, 0, 0, 0, 0, 0, 1, 3, 0, 0, 0, 2]⟩ := by
    rw [e1, if_pos rfl, encK_eq]
    unfold tailK
    decide +kernel
  rw [e2, e1] at h
  have H := Lib.hid h
  clear h e1 e2
  go_enter Try.func8, Try.ntmps8
  go_wp2_with (go_at_call 10; with_reducible refine (H.out _).mono ?_; rintro e w1 ⟨rfl, h⟩; have HA := Lib.hid h; clear h)
  go_ret
  exact ⟨rfl, HA.out⟩
end Go.Proofs.Ytbnnkpnhfjkdpaa
