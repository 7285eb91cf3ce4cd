/- Plans: space's Of, the document's, walked. -/
import Derived.Test.YtnimgkijodfjkaaKJb
import Derived.Laws.ResultCell
namespace Go.Proofs.Ytnimgkijodfjkaa
open Go.RowKit Pm
set_option linter.unusedVariables false

def planV (j h r b s : Int) : Value := .agg #[.int .i64 j, .int .i64 h, .int .i64 r, .int .i64 b, .int .i64 s]
theorem ret_cell2J {P : Program} {fn : Func} {p u : Tmp} {ty : TypeId} (h : fn.results = #[.cell p ty, .tmp u]) (tmps : Array Value) (w : World) (g : Nat) (t : TypeId) (cs : Array Value) (fr : Nat × Nat) (d : TypeDesc) (b : Value)
    (hp : tmps.getD p undef = .pointer (some ⟨g, 0, none⟩)) (hg : w.heap[g]? = some (.cells cs t fr))
    (hu : P.underlying ty = some d) (hd : (match d with | .struct _ | .array _ _ => true | _ => false) = true) (hi : (P.info? ty).map (·.size) = some cs.size) (hb : tmps.getD u undef = b) :
    (results fn tmps).run P w = .ok (.tuple #[.agg cs, b]) w := by
  have hp' : tmps[p]?.getD undef = .pointer (some ⟨g, 0, none⟩) := by simpa using hp
  rw [results_cell_tmp h, hp, hb]
  simp [asAddr, Result.andThen, run_loadVar_row w g t ty cs fr d hg hu hd hi]
theorem plan1Info : (Try.prog.info? 25).map (·.size) = some 5 := by kernel_rfl
theorem plan2Info : (Try.prog.info? 30).map (·.size) = some 5 := by kernel_rfl
theorem fin_plan1 {fn : Func} {p u : Tmp} (h : fn.results = #[.cell p 25, .tmp u]) {a : Act} {W : World} {g : Nat} {k0 k1 k2 k3 k4 b : Value} {R : Ending → World → Prop} (hp : a.tmps.getD p undef = .pointer (some ⟨g, 0, none⟩)) (hb : a.tmps.getD u undef = b) (hd : a.defers = [])
    (hg : W.heap[g]? = some (.cells #[k0, k1, k2, k3, k4] 25 (0, 0))) (hR : R (.returned (.tuple #[.agg #[k0, k1, k2, k3, k4], b])) W) : bodyPost Try.prog fn R .ret a W :=
  bodyPost_ret_by (ret_cell2J h _ _ g _ #[k0, k1, k2, k3, k4] _ _ b hp hg Try.underlying25 rfl plan1Info hb) hd hR
theorem fin_plan2 {fn : Func} {p u : Tmp} (h : fn.results = #[.cell p 30, .tmp u]) {a : Act} {W : World} {g : Nat} {k0 k1 k2 k3 k4 b : Value} {R : Ending → World → Prop} (hp : a.tmps.getD p undef = .pointer (some ⟨g, 0, none⟩)) (hb : a.tmps.getD u undef = b) (hd : a.defers = [])
    (hg : W.heap[g]? = some (.cells #[k0, k1, k2, k3, k4] 30 (0, 0))) (hR : R (.returned (.tuple #[.agg #[k0, k1, k2, k3, k4], b])) W) : bodyPost Try.prog fn R .ret a W :=
  bodyPost_ret_by (ret_cell2J h _ _ g _ #[k0, k1, k2, k3, k4] _ _ b hp hg Try.underlying30 rfl plan2Info hb) hd hR
theorem set5 {W : World} {g : Nat} {C : Array Value} {t : TypeId} (h : W.heap[g]? = some (.cells C t (0, 0))) (hC : C.size = 5) (a b c d e : Value) :
    (((((W.setCell ⟨g, 0, none⟩ a).setCell ⟨g, 1, none⟩ b).setCell ⟨g, 2, none⟩ c).setCell ⟨g, 3, none⟩ d).setCell ⟨g, 4, none⟩ e).heap[g]? = some (.cells #[a, b, c, d, e] t (0, 0)) := by
  rw [block_set (block_set (block_set (block_set (block_set h a) b) c) d) e]
  obtain ⟨L⟩ := C
  match L, hC with
  | [_, _, _, _, _], _ => rfl
theorem upd5 {w W : World} {R : Nat → Prop} {g : Nat} (h : Upd R w W) (hg : R g ∨ w.heap.size ≤ g) (a b c d e : Value) :
    Upd R w (((((W.setCell ⟨g, 0, none⟩ a).setCell ⟨g, 1, none⟩ b).setCell ⟨g, 2, none⟩ c).setCell ⟨g, 3, none⟩ d).setCell ⟨g, 4, none⟩ e) :=
  ((((h.setCell hg _).setCell hg _).setCell hg _).setCell hg _).setCell hg _

set_option maxRecDepth 100000 in
theorem room_any (p : Int) (s : Bool) (w : World) :
    Calls Try.prog 13 #[.int .i64 p, .bool s] w fun e w' => e = .returned (.int .i64 (((Pr.DL p s).length : Int) - 2)) ∧ Upd noBlock w w' := by
  have HOF := Lib.hid (fun W => Pr.of_any p s W)
  have hL : (Pr.DL p s).length ≤ 61 := by
    unfold Pr.DL
    split
    next h =>
      obtain ⟨n, rfl, h1, h2, h3⟩ := Pr.okX_yes h
      have := Pr.dl_len s ((n : Int).toNat - 3)
      rw [Int.toNat_natCast] at this ⊢
      omega
    next => exact Nat.zero_le _
  generalize Pr.DL p s = D at *
  obtain ⟨n, hn⟩ : ∃ n, D.length = n := ⟨_, rfl⟩
  have HN := Lib.hid hn
  rw [hn] at hL ⊢
  clear hn
  go_enter Try.func13, Try.ntmps13
  go_wp2_with (go_at_call 21; (with_reducible refine (HOF.out _).mono ?_); rintro e w1 ⟨v1, v2, rfl, ho, ho2, hu⟩; obtain ⟨a, c, rfl, -, -, -⟩ := ho.sl; obtain ⟨a2, c2, rfl, -, -, -⟩ := ho2.sl; clear ho2; have hn := HN.out; rw [hn]; clear hn; have U1 := Lib.hid hu; clear ho hu)
  go_ret
  exact ⟨rfl, U1.out.alloc _⟩

set_option maxRecDepth 100000 in
set_option maxHeartbeats 1600000 in
theorem spaceOf_no (b p c k t x y : Int) (w : World) (HRAW : Hid (∀ W, Calls Try.prog 12 #[geoV b p c k t] W fun e w' => e = .returned (.tuple #[.int .i64 x, .int .i64 y]) ∧ Upd noBlock W w'))
    (h : b < 12 ∨ (12 ≤ b ∧ p < 16) ∨ (12 ≤ b ∧ 16 ≤ p ∧ y < 249)) :
    Calls Try.prog 6 #[geoV b p c k t] w fun e w' => e = .returned (.tuple #[planV 0 0 0 0 0, .bool false]) ∧ Upd noBlock w w' := by
  unfold geoV planV at *
  obtain ⟨wa, hwa⟩ : ∃ wa, wa = (w.alloc (.cells #[.int .i64 b, .int .i64 p, .int .i64 c, .int .i64 k, .int .i64 t] 29)).alloc (.cells #[.int .i64 0, .int .i64 0, .int .i64 0, .int .i64 0, .int .i64 0] 25) := ⟨_, rfl⟩
  have HG : Hid (wa.heap[w.heap.size]? = some (.cells #[.int .i64 b, .int .i64 p, .int .i64 c, .int .i64 k, .int .i64 t] 29 (0, 0))) := by rw [hwa]; exact block_alloc (heap_alloc_new w _) _
  have HZ : Hid (wa.heap[w.heap.size + 1]? = some (.cells #[.int .i64 0, .int .i64 0, .int .i64 0, .int .i64 0, .int .i64 0] 25 (0, 0))) := by
    rw [hwa]; have := heap_alloc_new (w.alloc (.cells #[.int .i64 b, .int .i64 p, .int .i64 c, .int .i64 k, .int .i64 t] 29)) (.cells #[.int .i64 0, .int .i64 0, .int .i64 0, .int .i64 0, .int .i64 0] 25)
    rw [show (w.alloc (.cells #[.int .i64 b, .int .i64 p, .int .i64 c, .int .i64 k, .int .i64 t] 29)).heap.size = w.heap.size + 1 from Array.size_push ..] at this; exact this
  have UA : Hid (Upd noBlock w wa) := by rw [hwa]; exact ((Upd.refl _ _).alloc _).alloc _
  have HF : Hid (∀ W, Upd noBlock wa W → W.heap[w.heap.size]? = some (.cells #[.int .i64 b, .int .i64 p, .int .i64 c, .int .i64 k, .int .i64 t] 29 (0, 0)) ∧ W.heap[w.heap.size + 1]? = some (.cells #[.int .i64 0, .int .i64 0, .int .i64 0, .int .i64 0, .int .i64 0] 25 (0, 0))) := fun W hW =>
    ⟨(hW.block _ (lt_of_block HG.out) id).trans HG.out, (hW.block _ (lt_of_block HZ.out) id).trans HZ.out⟩
  have hb0 := fun i => cell_of HG.out i
  go_enter Try.func6, Try.ntmps6
  go_upto_region 1 with fail
  rw [← hwa]
  clear hwa
  go_upto_region 2 with (go_at_call 12; (with_reducible refine (HRAW.out _).mono ?_); rintro e w2 ⟨rfl, hu2⟩; obtain ⟨g2, z2⟩ := HF.out _ hu2; have U2 := Lib.hid (UA.out.trans hu2); clear hu2)
  clear hb0
  have hb2 := fun i => cell_of g2 i
  have hc2 := fun i => cell_of z2 i
  have hf2 := fun i => free_of z2 i
  have Z2 := Lib.hid z2
  clear g2 z2 HG HZ UA HF HRAW
  rcases h with h | ⟨h, h'⟩ | ⟨h, h', h''⟩
  all_goals
    go_wp2_with fail
    exact fin_plan1 rfl rfl rfl rfl (set5 Z2.out rfl _ _ _ _ _) ⟨rfl, upd5 U2.out (.inr (Nat.le_succ _)) _ _ _ _ _⟩
end Go.Proofs.Ytnimgkijodfjkaa
