/- PackUnpacks. -/
import Derived.Test.YthlheamnfjjamaaDoorUe
import Derived.Test.YthlheamnfjjamaaDoorQs
import Derived.Test.YthlheamnfjjamaaDoorUq
import Derived.Deep.QuietTactic
import Derived.BigQuiet
namespace Go.Proofs.YthlheamnfjjamaaDoor
open Go.RowKit Cm
attribute [local irreducible] beZ valN Cm.shs Cm.nxt Cm.reg Cm.ext
attribute [local go_sem ↓] Go.wp_at_zero Go.wp_at_succ
set_option linter.unusedVariables false

def formN (v : Value) : Prop := ∃ (n : Int) (g b : Bool) (qk qv : ByteArray), v = .agg #[.int .i64 n, .bool g, .bool b, .string qk, .string qv]
theorem unpW_form (l : List UInt8) : ∀ (f : Nat) (a : Int) (N : List Value) (A : List Int), (∀ v ∈ N, formN v) → N.length = A.length → (∀ v ∈ (unpW l f a N A).1, formN v) ∧ (unpW l f a N A).1.length = (unpW l f a N A).2.1.length
  | 0, a, N, A, h, e => by unfold unpW; exact ⟨h, e⟩
  | f + 1, a, N, A, h, e => by
    rw [unpW]
    by_cases h0 : (decP l a).2.2 = 0
    · rw [if_pos h0]
      refine unpW_form l f _ _ _ ?_ (by simp [e])
      intro v hv
      rcases List.mem_append.1 hv with hv | hv
      · exact h v hv
      · obtain rfl : v = (decP l a).1 := by simpa using hv
        exact decP_form5 l a
    · rw [if_neg h0]
      by_cases h3 : (decP l a).2.2 = 3
      · rw [if_pos h3]; exact ⟨h, e⟩
      · rw [if_neg h3]; exact ⟨fun v hv => absurd hv List.not_mem_nil, rfl⟩
theorem unpW_count (l : List UInt8) : ∀ (f p : Nat) (N : List Value) (A : List Int), N.length ≤ p → p ≤ l.length → (unpW l f (p : Int) N A).1.length ≤ l.length
  | 0, p, N, A, h, hp => by unfold unpW; exact Nat.le_trans h hp
  | f + 1, p, N, A, h, hp => by
    rw [unpW]
    by_cases h0 : (decP l (p : Int)).2.2 = 0
    · rw [if_pos h0]
      obtain ⟨q, e1, e2, e3, _⟩ := decP_ok l p h0
      rw [e1]
      exact unpW_count l f q _ _ (by rw [List.length_append, List.length_singleton]; omega) e3
    · rw [if_neg h0]
      by_cases h3 : (decP l (p : Int)).2.2 = 3
      · rw [if_pos h3]; exact Nat.le_trans h hp
      · rw [if_neg h3]; exact Nat.zero_le _
theorem nodesC_length (N : List Value) (h : ∀ v ∈ N, formN v) : (nodesC N).length = 5 * N.length := by
  induction N with
  | nil => rfl
  | cons v N ih =>
    obtain ⟨n, g, b, qk, qv, e⟩ := h v List.mem_cons_self
    have := ih fun u hu => h u (List.mem_cons_of_mem _ hu)
    unfold nodesC at this ⊢
    rw [List.map_cons, List.flatten_cons, List.length_append, this, List.length_cons, e]
    show 5 + _ = _
    omega
theorem nodesC_at : ∀ (N : List Value) (h : ∀ v ∈ N, formN v) (i : Nat) (n : Int) (g b : Bool) (qk qv : ByteArray), N[i]? = some (.agg #[.int .i64 n, .bool g, .bool b, .string qk, .string qv]) →
    (nodesC N)[5 * i]? = some (.int .i64 n) ∧ (nodesC N)[5 * i + 1]? = some (.bool g) ∧ (nodesC N)[5 * i + 2]? = some (.bool b) ∧ (nodesC N)[5 * i + 3]? = some (.string qk) ∧ (nodesC N)[5 * i + 4]? = some (.string qv)
  | [], _, i, n, g, b, qk, qv, e => by simp at e
  | v :: N, h, 0, n, g, b, qk, qv, e => by
    obtain rfl : v = _ := by simpa using e
    exact ⟨rfl, rfl, rfl, rfl, rfl⟩
  | v :: N, h, i + 1, n, g, b, qk, qv, e => by
    obtain ⟨n', g', b', qk', qv', e'⟩ := h v List.mem_cons_self
    have ih := nodesC_at N (fun u hu => h u (List.mem_cons_of_mem _ hu)) i n g b qk qv (by simpa using e)
    have hc : nodesC (v :: N) = cellsN v ++ nodesC N := rfl
    have hl : (cellsN v).length = 5 := by rw [e']; rfl
    rw [hc]
    have k : ∀ j, (cellsN v ++ nodesC N)[5 * (i + 1) + j]? = (nodesC N)[5 * i + j]? := fun j => by
      rw [List.getElem?_append_right (by rw [hl]; omega), hl]
      congr 1; omega
    exact ⟨(k 0).trans ih.1, (k 1).trans ih.2.1, (k 2).trans ih.2.2.1, (k 3).trans ih.2.2.2.1, (k 4).trans ih.2.2.2.2⟩
/-- such a row as a slice, its cells in every world behind -/
theorem own_slice {w : World} {B : Nat} {e : TypeId} {s m : Nat} {v : Value} {xs : List Value} (h : w.ownsRow B e s v m xs) :
    ∃ a cap, v = .slice a m cap ∧ m ≤ cap ∧ cap ≤ maxLen ∧ (0 < m → ∃ g, a = some ⟨g, 0, none⟩ ∧ ∀ W, Upd noBlock w W → ∀ j, j < m * s → W.cell? ⟨g, j, none⟩ = xs[j]?) := by
  have h0 := h
  obtain ⟨hl, h⟩ := h
  rcases h with ⟨rfl, h2⟩ | ⟨g, cap, cur, rfl, hb, hg, r⟩
  · exact ⟨none, 0, by rw [h2], by omega, Nat.zero_le _, fun h => by omega⟩
  · refine ⟨some ⟨g, 0, none⟩, cap, rfl, r.1, r.2.1, fun _ => ⟨g, rfl, fun W hu j hj => ?_⟩⟩
    rw [World.cell?_of_block (hu.block g (lt_of_block hg) (fun h => h))]
    exact h0.cellAt j hj
theorem eq_nodeR (s0 : Int) (g0 l0 : Bool) (qa qb : ByteArray) (w : World) :
    (binOp .neq 27 (.agg #[.int .i64 s0, .bool g0, .bool l0, .string qa, .string qb]) (.agg #[.int .i64 s0, .bool g0, .bool l0, .string qa, .string qb])).run Tryd.prog w = .ok (.bool false) w := by
  go_simp
set_option maxRecDepth 20000 in
set_option maxHeartbeats 3200000 in
theorem packUnpacks_upd (l : List UInt8) (w : World) (hl : l.length ≤ 1048576) (hT : Tab w) :
    Calls Tryd.prog 8 #[.string ⟨l.toArray⟩] w fun e w' => e = .returned (.bool true) ∧ Upd noBlock w w' := by
  have HSP := Lib.hid (fun W => speaksQ W)
  have HP := Lib.hid (fun W hW => unpackP_any l W (by omega) hW)
  have HR := Lib.hid (fun W => refUnpack12_any l W (by omega))
  have hcnt := unpW_count l (l.length + 1) 0 [] [] (Nat.zero_le _) (Nat.zero_le _)
  obtain ⟨hfm, heq⟩ := unpW_form l (l.length + 1) 0 [] [] (fun v hv => absurd hv List.not_mem_nil) rfl
  rw [show ((0 : Nat) : Int) = 0 from rfl] at hcnt
  generalize unpW l (l.length + 1) 0 [] [] = R at *
  obtain ⟨N, A, er⟩ := R
  have hfm' : ∀ v ∈ N, formN v := hfm
  have heq' : A.length = N.length := heq.symm
  have hcnt' : N.length ≤ l.length := hcnt
  have HP' : Hid (∀ W, Tab W → Calls Tryd.prog 28 #[.string ⟨l.toArray⟩] W fun e w' => ∃ v5 v6, e = .returned (.tuple #[v5, v6, .int .i64 er]) ∧ w'.ownsRow W.heap.size 26 5 v5 N.length (nodesC N) ∧ w'.ownsRow W.heap.size 3 1 v6 A.length (A.map (Value.int .i64)) ∧ Upd noBlock W w') := HP.out
  have HR' : Hid (∀ W, Calls Tryd.prog 29 #[.string ⟨l.toArray⟩] W fun e w' => ∃ v5 v6, e = .returned (.tuple #[v5, v6, .int .i64 er]) ∧ w'.ownsRow W.heap.size 27 5 v5 N.length (nodesC N) ∧ w'.ownsRow W.heap.size 3 1 v6 A.length (A.map (Value.int .i64)) ∧ Upd noBlock W w') := HR.out
  clear HP HR hcnt hfm heq
  obtain ⟨m, hm⟩ : ∃ m, N.length = m := ⟨_, rfl⟩
  rw [heq', hm] at HP' HR'
  rw [hm] at hcnt' heq'
  have HF := Lib.hid hfm'
  have hmb : m ≤ 1048576 := by omega
  obtain ⟨q, hq⟩ : ∃ q : ByteArray, ⟨l.toArray⟩ = q := ⟨_, rfl⟩
  rw [hq] at HP' HR' ⊢
  have HT : Hid (∀ W, Upd noBlock w W → Tab W) := fun W h => hT.upd h
  clear hfm' hT hq hl hcnt'
  go_enter Tryd.func8, Tryd.ntmps8
  go_wp2_with (first
    | (go_at_call 27; (with_reducible refine (HSP.out _).mono ?_); rintro e w1 ⟨rfl, h⟩; have HX := Lib.hid h; clear h)
    | (go_at_call 28; (with_reducible refine (HP'.out _ (HT.out _ HX.out)).mono ?_); rintro e w2 ⟨v5, v6, rfl, o5, o6, h⟩; obtain ⟨a5, c5, rfl, p5, q5, r5⟩ := own_slice o5; obtain ⟨a6, c6, rfl, p6, q6, r6⟩ := own_slice o6; have R5 := Lib.hid r5; have R6 := Lib.hid r6; have HX := Lib.hid (HX.out.trans h); clear h o5 o6 r5 r6)
    | (go_at_call 29; (with_reducible refine (HR'.out _).mono ?_); rintro e w3 ⟨v7, v8, rfl, o7, o8, h⟩; obtain ⟨a7, c7, rfl, p7, q7, r7⟩ := own_slice o7; obtain ⟨a8, c8, rfl, p8, q8, r8⟩ := own_slice o8; have R7 := Lib.hid r7; have R8 := Lib.hid r8; have HY := Lib.hid h; have HX := Lib.hid (HX.out.trans h); clear h o7 o8 r7 r8))
  clear HP' HR' HSP
  go_loopw [9] (fun i wr => ∃ k : Nat, k ≤ m ∧ i = .int .i64 (k : Int) ∧ Hid (Upd noBlock w3 wr)) (fun i _ => m - (intOf i).toNat)
  case atStart => exact ⟨0, Nat.zero_le _, rfl, Upd.refl _ _⟩
  case round =>
    obtain ⟨k, hk, rfl, HU⟩ := hrel
    have HY2 := Lib.hid (HY.out.trans HU.out)
    by_cases h0 : k < m
    · have hm0 : 0 < m := by omega
      obtain ⟨g5, rfl, s5⟩ := R5.out hm0
      obtain ⟨g6, rfl, s6⟩ := R6.out hm0
      obtain ⟨g7, rfl, s7⟩ := R7.out hm0
      obtain ⟨g8, rfl, s8⟩ := R8.out hm0
      obtain ⟨n, g, b, qk, qv, hv⟩ := HF.out (N[k]'(by omega)) (List.getElem_mem _)
      obtain ⟨z0, z1, z2, z3, z4⟩ := nodesC_at N HF.out k n g b qk qv (by rw [List.getElem?_eq_getElem (by omega), hv])
      have hA : (A.map (Value.int .i64))[k]? = some (.int .i64 (A[k]'(by omega))) := by rw [List.getElem?_map, List.getElem?_eq_getElem (by omega)]; rfl
      generalize A[k]'(by omega) = pl at hA
      have h5 : 5 * k = k * 5 := Nat.mul_comm _ _
      rw [h5] at z0 z1 z2 z3 z4
      have x0 := (s5 _ HY2.out (k * 5) (by omega)).trans z0
      have x1 := (s5 _ HY2.out (k * 5 + 1) (by omega)).trans z1
      have x2 := (s5 _ HY2.out (k * 5 + 2) (by omega)).trans z2
      have x3 := (s5 _ HY2.out (k * 5 + 3) (by omega)).trans z3
      have x4 := (s5 _ HY2.out (k * 5 + 4) (by omega)).trans z4
      have y0 := (s7 _ HU.out (k * 5) (by omega)).trans z0
      have y1 := (s7 _ HU.out (k * 5 + 1) (by omega)).trans z1
      have y2 := (s7 _ HU.out (k * 5 + 2) (by omega)).trans z2
      have y3 := (s7 _ HU.out (k * 5 + 3) (by omega)).trans z3
      have y4 := (s7 _ HU.out (k * 5 + 4) (by omega)).trans z4
      clear h5
      have e6 := (s6 _ HY2.out k (by omega)).trans hA
      have e8 := (s8 _ HU.out k (by omega)).trans hA
      have heqn := fun W => eq_nodeR n g b qk qv W
      clear s5 s6 s7 s8 z0 z1 z2 z3 z4 hA hv
      go_wp2_with fail
      go_quiet (fail)
      go_wp2_with fail
      go_roundw
      case rel => exact ⟨k + 1, by omega, by go_num, HU.out.drewN _⟩
      case measure => simp [intOf]; omega
    · obtain rfl : k = m := by omega
      go_wp2_with fail
      go_ret
      exact ⟨rfl, HX.out.trans HU.out⟩
theorem packUnpacks_walk (q : ByteArray) (w : World) (hq : q.size ≤ 1048576) (hT : Tab w) :
    Calls Tryd.prog 8 #[.string q] w fun e w' => e = .returned (.bool true) ∧ Below w.heap.size w w' := by
  obtain ⟨l, rfl⟩ : ∃ l : List UInt8, q = ⟨l.toArray⟩ := ⟨q.data.toList, rfl⟩
  exact Calls.mono (packUnpacks_upd l w hq hT) fun _ _ (h : _ ∧ Upd noBlock w _) => ⟨h.1, h.2.below (fun _ _ h => h)⟩
end Go.Proofs.YthlheamnfjjamaaDoor
