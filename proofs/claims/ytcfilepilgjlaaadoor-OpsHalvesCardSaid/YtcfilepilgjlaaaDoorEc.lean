/- changeOf: the change of a piece. -/
import Derived.Test.YtcfilepilgjlaaaDoorEb
import Derived.Test.YtcfilepilgjlaaaDoorZo
import Derived.Deep.RegionHeld
import Derived.Handy
namespace Go.Proofs.YtcfilepilgjlaaaDoor
open Go.RowKit

/-- how far a piece's bytes go, the last ones 00 left out -/
def tN (f : Nat → UInt8) (o : Nat) : Nat → Nat
  | 0 => 0
  | k + 1 => if f (o + k) = 0 then tN f o k else k + 1
theorem tN_le (f : Nat → UInt8) (o : Nat) : ∀ k, tN f o k ≤ k
  | 0 => Nat.le_refl _
  | k + 1 => by
    rw [tN]
    split
    · have := tN_le f o k; omega
    · exact Nat.le_refl _
theorem bytesAt_snoc (f : Nat → UInt8) (o k : Nat) : bytesAt f o (k + 1) = bytesAt f o k ++ [f (o + k)] := by
  unfold bytesAt; rw [List.range_succ, List.map_append]; rfl
theorem trim_bytes (f : Nat → UInt8) (o : Nat) : ∀ k, Lib.trimRightB (bytesAt f o k) 0 = bytesAt f o (tN f o k)
  | 0 => rfl
  | k + 1 => by
    rw [tN]
    have e : Lib.trimRightB (bytesAt f o (k + 1)) 0 = if f (o + k) = 0 then Lib.trimRightB (bytesAt f o k) 0 else bytesAt f o (k + 1) := by
      unfold Lib.trimRightB
      rw [bytesAt_snoc, List.reverse_append, List.reverse_singleton, List.singleton_append, List.dropWhile_cons]
      by_cases h : f (o + k) = 0
      · rw [if_pos h, if_pos (beq_iff_eq.2 h)]
      · rw [if_neg h, if_neg (fun e => h (beq_iff_eq.1 e))]
        simp
    rw [e]
    split
    · exact trim_bytes f o k
    · rfl
/-- the text of a piece that begins at o -/
def tx (f : Nat → UInt8) (o : Nat) : List UInt8 := bytesAt f o (tN f o 64)
theorem tx_len (f : Nat → UInt8) (o : Nat) : (tx f o).length ≤ 64 := by unfold tx; rw [bytesAt_length]; exact tN_le _ _ _
/-- the cells of a change -/
def chC (nm p : Int) (t : List UInt8) : Array Value := #[.int .i64 nm, .int .i64 3, .string ⟨#[]⟩, .int .i64 p, .string ⟨(if t = [] then [] else packL t).toArray⟩, .bool t.isEmpty]
theorem chInfo : (Tryd.prog.info? 42).map (·.size) = some 6 := by kernel_rfl
set_option maxRecDepth 20000 in
set_option maxHeartbeats 1600000 in
theorem changeOf_any (nm p : Int) (a : Option Addr) (n c : Nat) (t t0 : List UInt8) (w : World) (hcv : ∀ W, Upd noBlock w W → (convert 37 9 (.slice a n c)).run Tryd.prog W = .ok (.string ⟨t0.toArray⟩) W) (ht : Lib.trimRightB t0 0 = t) (hl : t0.length ≤ 64) :
    Calls Tryd.prog 22 #[.int .i64 nm, .int .i64 p, .slice a n c] w fun e w' => e = .returned (.agg (chC nm p t)) ∧ Upd noBlock w w' := by
  have HCV := Lib.hid hcv
  have HT : Hid (∀ w : World, Calls Tryd.prog 29 #[.string ⟨t0.toArray⟩, .string ⟨#[0]⟩] w fun e w' => e = .returned (.string ⟨t.toArray⟩) ∧ w = w') := fun w => (Tryd.strings_TrimRight_one ⟨t0.toArray⟩ 0 (by decide) w (by show t0.length ≤ _; omega)).mono (fun e w' h => ⟨by rw [h.1]; show Ending.returned (Value.string ⟨(Lib.trimRightB t0 0).toArray⟩) = _; rw [ht], h.2.symm⟩)
  have hP : t.length ≤ 281474976710655 := by
    have : t.length ≤ t0.length := by rw [← ht]; unfold Lib.trimRightB; rw [List.length_reverse]; exact Nat.le_trans (List.dropWhile_sublist _).length_le (by rw [List.length_reverse]; exact Nat.le_refl _)
    omega
  have HP := Lib.hid (fun w => Pack_any t w hP)
  clear hcv ht
  obtain ⟨q0, hq0⟩ : ∃ q : ByteArray, ⟨t0.toArray⟩ = q := ⟨_, rfl⟩
  rw [hq0] at HCV HT
  clear hq0 hl hP
  have FA : ∀ W : World, W = (w.alloc (.cells #[.int .i64 0, .int .i64 0, .string ⟨#[]⟩, .int .i64 0, .string ⟨#[]⟩, .bool false] 42)).alloc (.cells #[.int .i64 nm, .int .i64 3, .string ⟨#[]⟩, .int .i64 p] 40) →
      Upd noBlock w W ∧ W.heap[w.heap.size]? = some (.cells #[.int .i64 0, .int .i64 0, .string ⟨#[]⟩, .int .i64 0, .string ⟨#[]⟩, .bool false] 42 (0, 0)) ∧
      W.cell? ⟨w.heap.size + 1, 0, none⟩ = some (.int .i64 nm) ∧ W.cell? ⟨w.heap.size + 1, 1, none⟩ = some (.int .i64 3) ∧ W.cell? ⟨w.heap.size + 1, 2, none⟩ = some (.string ⟨#[]⟩) ∧ W.cell? ⟨w.heap.size + 1, 3, none⟩ = some (.int .i64 p) := by
    rintro W rfl
    obtain ⟨w1, hw1⟩ : ∃ w1, w1 = w.alloc (.cells #[.int .i64 0, .int .i64 0, .string ⟨#[]⟩, .int .i64 0, .string ⟨#[]⟩, .bool false] 42) := ⟨_, rfl⟩
    have e1 : w1.heap.size = w.heap.size + 1 := by rw [hw1, World.size_alloc]
    have e2 : w1.heap[w.heap.size]? = some (.cells #[.int .i64 0, .int .i64 0, .string ⟨#[]⟩, .int .i64 0, .string ⟨#[]⟩, .bool false] 42 (0, 0)) := by rw [hw1]; exact heap_alloc_new w _
    have u1 : Upd noBlock w w1 := by rw [hw1]; exact (Upd.refl _ _).alloc _
    rw [← hw1]
    have hn := heap_alloc_new w1 (.cells #[.int .i64 nm, .int .i64 3, .string ⟨#[]⟩, .int .i64 p] 40)
    rw [e1] at hn
    exact ⟨u1.alloc _, block_alloc e2 _, cell_of hn 0, cell_of hn 1, cell_of hn 2, cell_of hn 3⟩
  by_cases h0 : t = []
  · subst h0
    go_enter Tryd.func22, Tryd.ntmps22
    go_wp2
    obtain ⟨wa, hwa⟩ : ∃ W : World, W = (w.alloc (.cells #[.int .i64 0, .int .i64 0, .string ⟨#[]⟩, .int .i64 0, .string ⟨#[]⟩, .bool false] 42)).alloc (.cells #[.int .i64 nm, .int .i64 3, .string ⟨#[]⟩, .int .i64 p] 40) := ⟨_, rfl⟩
    rw [← hwa]
    obtain ⟨ua, hb, k0, k1, k2, k3⟩ := FA wa hwa
    have hcv := HCV.out wa ua
    have HU := Lib.hid ua
    have HB := Lib.hid hb
    have ff := free_of hb
    have c0 := cell_of hb 0
    have c1 := cell_of hb 1
    have c2 := cell_of hb 2
    have c3 := cell_of hb 3
    have c4 := cell_of hb 4
    have c5 := cell_of hb 5
    clear FA hwa ua hb
    go_wp2_with (first | simp only [hcv, Result.andThen_ok] | (go_at_call 29; refine (HT.out _).mono ?_; rintro e w1 ⟨rfl, rfl⟩))
    refine bodyPost_ret_by (results_cell_row rfl _ _ w.heap.size 42 #[.int .i64 nm, .int .i64 3, .string ⟨#[]⟩, .int .i64 p, .string ⟨#[]⟩, .bool true] (0, 0) _ rfl ?_ Tryd.underlying42 rfl chInfo) rfl ⟨rfl, ?_⟩
    · exact block_set (block_set (block_set (block_set (block_set (block_set HB.out _) _) _) _) _) _
    · exact (((((HU.out.setCell (.inr (Nat.le_refl _)) _).setCell (.inr (Nat.le_refl _)) _).setCell (.inr (Nat.le_refl _)) _).setCell (.inr (Nat.le_refl _)) _).setCell (.inr (Nat.le_refl _)) _).setCell (.inr (Nat.le_refl _)) _
  · have h1 : t.isEmpty = false := by cases t with | nil => exact absurd rfl h0 | cons => rfl
    have e1 : chC nm p t = #[.int .i64 nm, .int .i64 3, .string ⟨#[]⟩, .int .i64 p, .string ⟨(packL t).toArray⟩, .bool false] := by unfold chC; rw [if_neg h0, h1]
    obtain ⟨qt, hqt⟩ : ∃ q : ByteArray, ⟨t.toArray⟩ = q := ⟨_, rfl⟩
    obtain ⟨qp, hqp⟩ : ∃ q : ByteArray, ⟨(packL t).toArray⟩ = q := ⟨_, rfl⟩
    have h2 : qt.toList.isEmpty = false := by rw [Lib.toList_data, ← hqt]; exact h1
    rw [e1]
    rw [hqt] at HT HP
    rw [hqp] at HP ⊢
    clear e1 hqt hqp h0 h1
    go_enter Tryd.func22, Tryd.ntmps22
    go_wp2
    obtain ⟨wa, hwa⟩ : ∃ W : World, W = (w.alloc (.cells #[.int .i64 0, .int .i64 0, .string ⟨#[]⟩, .int .i64 0, .string ⟨#[]⟩, .bool false] 42)).alloc (.cells #[.int .i64 nm, .int .i64 3, .string ⟨#[]⟩, .int .i64 p] 40) := ⟨_, rfl⟩
    rw [← hwa]
    obtain ⟨ua, hb, k0, k1, k2, k3⟩ := FA wa hwa
    have hcv := HCV.out wa ua
    have HU := Lib.hid ua
    have HB := Lib.hid hb
    have ff := free_of hb
    have c0 := cell_of hb 0
    have c1 := cell_of hb 1
    have c2 := cell_of hb 2
    have c3 := cell_of hb 3
    have c4 := cell_of hb 4
    have c5 := cell_of hb 5
    have HK : Hid (∀ W, Upd noBlock wa W → W.heap[w.heap.size]? = some (.cells #[.int .i64 0, .int .i64 0, .string ⟨#[]⟩, .int .i64 0, .string ⟨#[]⟩, .bool false] 42 (0, 0)) ∧
      W.cell? ⟨w.heap.size + 1, 0, none⟩ = some (.int .i64 nm) ∧ W.cell? ⟨w.heap.size + 1, 1, none⟩ = some (.int .i64 3) ∧ W.cell? ⟨w.heap.size + 1, 2, none⟩ = some (.string ⟨#[]⟩) ∧ W.cell? ⟨w.heap.size + 1, 3, none⟩ = some (.int .i64 p) ∧ Upd noBlock w W) := fun W hu =>
      ⟨(hu.block _ (lt_of_block hb) (fun h => h)).trans hb, upd_cell hu k0, upd_cell hu k1, upd_cell hu k2, upd_cell hu k3, ua.trans hu⟩
    clear FA hwa ua hb
    go_wp2_with (first | simp only [hcv, Result.andThen_ok] | (go_at_call 29; refine (HT.out _).mono ?_; rintro e w1 ⟨rfl, rfl⟩))
    clear hcv
    go_region_with (go_at_call 30; refine (HP.out _).mono ?_; rintro e w1 ⟨rfl, u1⟩; (obtain ⟨hb2, m0, m1, m2, m3, U2⟩ := HK.out w1 (by first | exact u1 | exact (Upd.refl noBlock wa).drew.trans u1)); have HB2 := Lib.hid hb2; have HU2 := Lib.hid U2; have ff2 := free_of hb2; have d0 := cell_of hb2 0; have d1 := cell_of hb2 1; have d2 := cell_of hb2 2; have d3 := cell_of hb2 3; have d4 := cell_of hb2 4; have d5 := cell_of hb2 5; clear hb2 U2 u1)
    all_goals
      go_wp2
      refine bodyPost_ret_by (results_cell_row rfl _ _ w.heap.size 42 #[.int .i64 nm, .int .i64 3, .string ⟨#[]⟩, .int .i64 p, .string qp, .bool false] (0, 0) _ rfl ?_ Tryd.underlying42 rfl chInfo) rfl ⟨rfl, ?_⟩
      · exact block_set (block_set (block_set (block_set (block_set (block_set HB2.out _) _) _) _) _) _
      · exact (((((HU2.out.setCell (.inr (Nat.le_refl _)) _).setCell (.inr (Nat.le_refl _)) _).setCell (.inr (Nat.le_refl _)) _).setCell (.inr (Nat.le_refl _)) _).setCell (.inr (Nat.le_refl _)) _).setCell (.inr (Nat.le_refl _)) _
/-- of bytes in a row -/
theorem changeOf_row (nm p : Int) (g o m c : Nat) (f : Nat → UInt8) (w : World) (hr : R8 w g m f) (ho : o + 64 ≤ m) :
    Calls Tryd.prog 22 #[.int .i64 nm, .int .i64 p, .slice (some ⟨g, o, none⟩) 64 c] w fun e w' => e = .returned (.agg (chC nm p (tx f o))) ∧ Upd noBlock w w' :=
  changeOf_any nm p _ 64 c (tx f o) (bytesAt f o 64) w (fun W hu => (hr.grow hu).text o 64 c ho _ _ Tryd.underlying37 Tryd.underlying5 Tryd.underlying9) (trim_bytes f o 64) (by rw [bytesAt_length]; exact Nat.le_refl _)
/-- of no bytes -/
theorem changeOf_nil (nm p : Int) (w : World) :
    Calls Tryd.prog 22 #[.int .i64 nm, .int .i64 p, .slice none 0 0] w fun e w' => e = .returned (.agg (chC nm p [])) ∧ Upd noBlock w w' :=
  changeOf_any nm p none 0 0 [] [] w (fun W _ => run_convert_bytes_nil (w := W) 37 5 Tryd.underlying37 Tryd.underlying5 0 0 9 Tryd.underlying9) rfl (by decide)
end Go.Proofs.YtcfilepilgjlaaaDoor
