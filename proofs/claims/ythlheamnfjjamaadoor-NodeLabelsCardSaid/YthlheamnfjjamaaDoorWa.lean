/- numbers.Split; numbers.Join of two and three numbers. -/
import Derived.Test.YthlheamnfjjamaaDoorOc
import Derived.Deep.OwnRows
namespace Go.Proofs.YthlheamnfjjamaaDoor
open Go.RowKit Cm
attribute [local irreducible] beZ valN

/-- the k-th number of a text of numbers -/
def splN (size : Nat) (l : List UInt8) (k : Nat) : Int := wrap64 ((valN ((l.drop (k * size)).take size) : Nat) : Int)
def sRow (size : Nat) (l : List UInt8) (k j : Nat) : Value := .int .i64 (if j < k then splN size l j else 0)
theorem intCellsS : (Tryd.prog.info? 3).map (fun i => (i.zero, i.size, i.bytes)) = some (some (.int .i64 0), 1, 8) := by kernel_rfl
set_option maxRecDepth 20000 in
set_option maxHeartbeats 1600000 in
theorem Split_any (size n : Nat) (l : List UInt8) (w : World) (hs : 1 ≤ size) (hs8 : size ≤ 8) (hl : l.length = n * size) (hn : 0 < n) (hn2 : n ≤ 1000) :
    Calls Tryd.prog 46 #[.int .i64 (size : Int), .string ⟨l.toArray⟩] w fun e w' => e = .returned (.slice (some ⟨w.heap.size, 0, none⟩) n n) ∧
      w'.rowIs w.heap.size 3 n (fun j => .int .i64 (splN size l j)) ∧ Upd noBlock w w' := by
  obtain ⟨q, hq⟩ : ∃ q : ByteArray, ⟨l.toArray⟩ = q := ⟨_, rfl⟩
  have hsz : q.size = n * size := by rw [← hq]; exact hl
  have hb : n * size ≤ 8000 := Nat.le_trans (Nat.mul_le_mul hn2 hs8) (by decide)
  have hdiv : ((n * size : Nat) : Int).tdiv (size : Int) = (n : Int) := by
    rw [Int.natCast_mul, Int.mul_tdiv_cancel]; omega
  have HO : Hid (∀ k, k < n → ∀ W, Calls Tryd.prog 48 #[.string (q.extract (k * size) ((k + 1) * size))] W fun e w' => e = .returned (.int .i64 (splN size l k)) ∧ w' = W) := fun k hk W => by
    subst hq
    rw [ext_str, show (k + 1) * size - k * size = size by rw [Nat.add_mul]; omega]
    exact Of_any _ W (by rw [List.length_take]; unfold maxLen; omega)
  have HMul : Hid (∀ k, k < n → (k + 1) * size ≤ n * size ∧ k * size ≤ (k + 1) * size) := fun k hk => ⟨Nat.mul_le_mul_right _ hk, Nat.mul_le_mul_right _ (Nat.le_succ k)⟩
  have hmk : ∀ w : World, (Instr.makeSlice 64 (.int .i64 (n : Int)) (.int .i64 (n : Int))).run Tryd.prog w = .ok (.slice (some ⟨w.heap.size, 0, none⟩) n n) (w.alloc (.cells (madeCells #[.int .i64 0] n) 3)) :=
    run_make_row' (P := Tryd.prog) 64 3 (.int .i64 0) 8 Tryd.underlying64 intCellsS rfl .i64 .i64 n (by omega) (by omega)
  obtain ⟨O, HO'⟩ : ∃ O : Obj, Hid (O = .cells (madeCells #[.int .i64 0] n) 3) := ⟨_, rfl⟩
  rw [← HO'.out] at hmk
  have B0 : Hid ((w.alloc O).rowIs w.heap.size 3 n (sRow size l 0)) := by
    rw [HO'.out]
    exact (World.rowIs_made w (.int .i64 0) n 3).congr (fun i _ => by unfold sRow; rw [if_neg (Nat.not_lt_zero i)])
  have U0 : Hid (Upd noBlock w (w.alloc O)) := (Upd.refl _ _).alloc _
  have HROW : Hid (∀ k i, sRow size l (k + 1) i = if i = k then .int .i64 (splN size l k) else sRow size l k i) := fun k i => by
    unfold sRow
    by_cases hi : i = k
    · subst hi; rw [if_pos rfl, if_pos (by omega)]
    · rw [if_neg hi]
      have : i < k + 1 ↔ i < k := by omega
      simp only [this]
  have HEND : Hid (∀ W : World, W.rowIs w.heap.size 3 n (sRow size l n) → W.rowIs w.heap.size 3 n (fun j => .int .i64 (splN size l j))) := fun W h => h.congr (fun i hi => by unfold sRow; rw [if_pos hi])
  rw [hq]
  clear hq hl HO'
  obtain ⟨B, hB⟩ : ∃ B, n * size = B := ⟨_, rfl⟩
  rw [hB] at hsz hb hdiv HMul
  clear hB
  go_enter Tryd.func46, Tryd.ntmps46
  go_wp2_with fail
  clear hmk hdiv
  obtain ⟨wa, hwa⟩ : ∃ wa, wa = w.alloc O := ⟨_, rfl⟩
  rw [← hwa] at B0 U0 ⊢
  clear hwa
  go_loopw [14] (fun i wr => ∃ k : Nat, k ≤ n ∧ i = .int .i64 (k : Int) ∧ Hid (wr.rowIs w.heap.size 3 n (sRow size l k)) ∧ Hid (Upd noBlock w wr)) (fun i _ => n - (intZ i).toNat)
  case atStart => exact ⟨0, Nat.zero_le _, rfl, B0, U0⟩
  case round =>
    clear B0 U0
    obtain ⟨k, hk, rfl, HR, HU⟩ := hrel
    by_cases h0 : k < n
    · obtain ⟨m1, m2⟩ := HMul.out k h0
      have HC := Lib.hid (HO.out k h0)
      have HF1 : Hid (∀ v, v = Value.int .i64 (splN size l k) → (wr.setCell ⟨w.heap.size, k, none⟩ v).rowIs w.heap.size 3 n (sRow size l (k + 1))) := fun v hv => by
        subst hv
        exact (HR.out.set k _).congr (fun i _ => (HROW.out k i).symm)
      have HF2 : Hid (∀ v, Upd noBlock w (wr.setCell ⟨w.heap.size, k, none⟩ v)) := fun v => HU.out.setCell (p := ⟨w.heap.size, k, none⟩) (.inr (Nat.le_refl _)) _
      have a1 := HR.out.cell h0
      have a2 := HR.out.frozen k
      generalize sRow size l k k = v0 at a1
      generalize splN size l k = z at *
      obtain ⟨x1, hx1⟩ : ∃ x1, k * size = x1 := ⟨_, rfl⟩
      obtain ⟨x2, hx2⟩ : ∃ x2, (k + 1) * size = x2 := ⟨_, rfl⟩
      have y1 : IntKind.i64.wrap ((k : Int) * (size : Int)) = (x1 : Int) := by rw [← hx1, ← Int.natCast_mul]; exact wrap_i64_nat _ (by omega)
      have y2 : IntKind.i64.wrap (((k : Int) + 1) * (size : Int)) = (x2 : Int) := by
        rw [← hx2, show ((k : Int) + 1) = ((k + 1 : Nat) : Int) from rfl, ← Int.natCast_mul]; exact wrap_i64_nat _ (by omega)
      rw [hx1, hx2] at m2 HC
      rw [hx2] at m1
      go_wp2_with (go_at_call 48; (with_reducible refine (HC.out _).mono ?_); rintro e w2 ⟨rfl, rfl⟩)
      go_roundw
      case rel => exact ⟨k + 1, by omega, by go_num, HF1.out _ rfl, HF2.out _⟩
      case measure => simp [intZ]; omega
    · obtain rfl : k = n := by omega
      go_wp2_with fail
      go_ret
      exact ⟨rfl, HEND.out _ HR.out, HU.out⟩
theorem SplitA (size n : Nat) (z : Int) (hz : z = (size : Int)) (l : List UInt8) (w : World) (hs : 1 ≤ size) (hs8 : size ≤ 8) (hl : l.length = n * size) (hn : 0 < n) (hn2 : n ≤ 1000) :
    Calls Tryd.prog 46 #[.int .i64 z, .string ⟨l.toArray⟩] w fun e w' => e = .returned (.slice (some ⟨w.heap.size, 0, none⟩) n n) ∧
      w'.rowIs w.heap.size 3 n (fun j => .int .i64 (splN size l j)) ∧ Upd noBlock w w' := by
  subst hz
  exact Split_any size n l w hs hs8 hl hn hn2
theorem JoinL (size : Nat) (hs : size ≤ 8) (z : Int) (hz : z = (size : Int)) (L : List Int) (hL : L.length ≤ 1000) (n : Nat) (hn : L.length = n) (h : Nat) (W : World) (hc : ∀ i, i < L.length → W.cell? ⟨h, i, none⟩ = some (.int .i64 (L.getD i 0))) :
    Calls Tryd.prog 38 #[.int .i64 z, .slice (some ⟨h, 0, none⟩) n n] W fun e w' => e = .returned (.string ⟨(joinZ size L).toArray⟩) ∧ Upd noBlock W w' := by
  subst hz hn
  exact Join_any size L W.heap.size L.length _ W hs (by omega) (ints_cells L hc) (Nat.le_refl _)
theorem joinZ2 (size : Nat) (a b : Int) : joinZ size [a, b] = beZ size a ++ beZ size b := by simp [joinZ]
theorem joinZ3 (size : Nat) (a b c : Int) : joinZ size [a, b, c] = beZ size a ++ (beZ size b ++ beZ size c) := by simp [joinZ]
theorem ValidL (L : List Int) (hL : L.length ≤ 1000) (n : Nat) (hn : L.length = n) (h : Nat) (W : World) (hc : ∀ i, i < L.length → W.cell? ⟨h, i, none⟩ = some (.int .i64 (L.getD i 0))) :
    Calls Tryd.prog 47 #[.slice (some ⟨h, 0, none⟩) n n] W fun e w' => e = .returned (.bool (L.all okN)) ∧ w' = W := by
  subst hn
  exact Valid_any L W.heap.size L.length _ W (by omega) (ints_cells L hc)
end Go.Proofs.YthlheamnfjjamaaDoor
