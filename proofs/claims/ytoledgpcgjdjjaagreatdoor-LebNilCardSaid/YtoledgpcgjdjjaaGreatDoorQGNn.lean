import Derived.Test.YtoledgpcgjdjjaaGreatDoorQGNi
import Derived.Laws.CopyOwn
import Derived.Deep.RegionLaw
import Derived.Lib.MakeNoZero
/- bytes.Repeat of one byte FF. -/
namespace Go.Proofs.YtoledgpcgjdjjaaGreatDoor
open Go.RowKit

theorem uint8Cells : (Tryz.prog.info? 5).map (·.size) = some 1 := by kernel_rfl
def FFRow (W : World) (g size k : Nat) : Prop :=
  ∃ L : Array Value, W.heap[g]? = some (.cells L 5 (0, 0)) ∧ L.size = size ∧ ∀ j, j < k → L[j]? = some (.int .u8 255)
theorem FFRow.drew {W : World} {g size k : Nat} (h : FFRow W g size k) : FFRow W.drew g size k := h
theorem FFRow.cell {W : World} {g size k : Nat} (h : FFRow W g size k) (j : Nat) (hj : j < k) : W.cell? ⟨g, j, none⟩ = some (.int .u8 255) := by
  obtain ⟨L, hL, _, hc⟩ := h
  rw [cell_of hL]; exact hc j hj
theorem ff_copy (W : World) (g size n k m sLen sCap : Nat) (ty : TypeId) (ad : Addr) (h : FFRow W g size k) (hn : n ≤ size) (_ : k ≤ n) (hm : m = min sLen (n - k)) (hsrc : ∀ j, j < m → W.cell? (ad.add j) = some (.int .u8 255)) :
    ∃ W2, (Builtin.copy_ #[105, 105] ty #[.slice (some ⟨g, k, none⟩) (n - k) (n - k), .slice (some ad) sLen sCap]).run Tryz.prog W = .ok (.int .i64 (m : Int)) W2 ∧ Hid (FFRow W2 g size (k + m)) ∧ ∀ B w0, Below B w0 W → B ≤ g → Below B w0 W2 := by
  obtain ⟨L, hL, hs, hc⟩ := h
  have hrun := run_copy_row (P := Tryz.prog) W 105 105 ty 5 g k (n - k) (n - k) ad sLen sCap L 5 (List.replicate m (.int .u8 255)) Tryz.underlying105 uint8Cells hL (by rw [List.length_replicate]; exact hm) (fun j v hj => by
    have hjm : j < m := by have := (List.getElem?_eq_some_iff.1 hj).1; simpa using this
    rw [List.getElem?_replicate, if_pos hjm] at hj
    rw [hsrc j hjm]; exact hj) (by rw [List.length_replicate]; omega) (fun v hv => by rw [List.eq_of_mem_replicate hv]; rfl)
  rw [List.length_replicate] at hrun
  refine ⟨_, hrun, ⟨_, setRow_heap W g L _ 5 (0, 0) hL, ?_, fun j hj => ?_⟩, fun B w0 hb hB => below_setRow hb hB _⟩
  · simp; omega
  · have hkm : k + m ≤ L.toList.length := by show k + m ≤ L.size; omega
    simp only [List.getElem?_toArray]
    have hlt : j < (List.take k L.toList ++ List.replicate m (Value.int .u8 255)).length := by rw [List.length_append, List.length_take, List.length_replicate]; omega
    rw [List.getElem?_append_left hlt]
    by_cases e : j < k
    · rw [List.getElem?_append_left (by rw [List.length_take]; omega), List.getElem?_take, if_pos e, Array.getElem?_toList, hc j e]
    · rw [List.getElem?_append_right (by rw [List.length_take]; omega), List.length_take, Nat.min_eq_left (by omega), List.getElem?_replicate, if_pos (by omega)]
set_option maxRecDepth 100000 in
set_option maxHeartbeats 1600000 in
theorem repeat_ff (n h : Nat) (w : World) (h1 : 1 ≤ n) (hn : n ≤ 2048) (hc : w.cell? ⟨h, 0, none⟩ = some (.int .u8 255)) :
    Calls Tryz.prog 163 #[.slice (some ⟨h, 0, none⟩) 1 1, .int .i64 (n : Int)] w fun e w' => ShowsW w w' e (List.replicate n 255) := by
  obtain ⟨cs, hrunM, hle, hmax⟩ := Lib.run_makeNoZero (P := Tryz.prog) w #[3] 105 5 Tryz.underlying105 n (by omega)
  obtain ⟨W, hW⟩ : ∃ W, W = (w.alloc (.cells cs 5)).drewN 2 := ⟨_, rfl⟩
  obtain ⟨g, hg⟩ : ∃ g, g = w.heap.size := ⟨_, rfl⟩
  have hcall : (callFunc 205 #[.int .i64 (n : Int)]).run Tryz.prog w = .ok (.value (.slice (some ⟨g, 0, none⟩) n cs.size)) W := by
    rw [run_callFunc_extern Tryz.func205 (by kernel_rfl) (by kernel_rfl) (by kernel_rfl) (e := Extern.BytealgMakeNoZero.makeNoZero #[3] #[105]) (by kernel_rfl), hrunM, hW, hg]
    rfl
  clear hrunM
  have HR0 : Hid (FFRow W g cs.size 0) := Lib.hid ⟨cs, by rw [hW, hg]; exact heap_alloc_new _ _, rfl, fun j hj => absurd hj (Nat.not_lt_zero j)⟩
  have HB0 : Hid (Below g w W) := Lib.hid (by rw [hW, hg]; exact (((Upd.refl noBlock w).alloc _).drewN 2).below (fun _ _ h => h))
  have HC : Hid (∀ j, j < 1 → W.cell? ((⟨h, 0, none⟩ : Addr).add j) = some (.int .u8 255)) := Lib.hid (fun j hj => by
    obtain rfl : j = 0 := by omega
    rw [add_zero_addr, hW]; exact upd_cell (((Upd.refl noBlock w).alloc _).drewN 2) hc)
  obtain ⟨W2, hcp, HR1, hb1⟩ := ff_copy W g cs.size n 0 1 1 1 3 ⟨h, 0, none⟩ HR0.out hle (by omega) (by omega) HC.out
  have HB1 := Lib.hid (hb1 _ _ HB0.out (Nat.le_refl _))
  rw [Nat.sub_zero] at hcp
  have HGS := Lib.hid hg
  have HM := Lib.hid hmax
  clear hmax hW hg hb1 HC hc HR0 HB0
  have hmul := Tryz.bits_Mul 1 n (by omega) (by omega) w
  rw [show 1 * n / 18446744073709551616 = 0 by omega, show 1 * n % 18446744073709551616 = n by omega] at hmul
  have HMUL := Lib.hid (hmul.mono (fun e w' h => (⟨h.1, h.2.symm⟩ : _ ∧ w = w')))
  clear hmul
  have d1 : ((n : Int) == 0) = false := beq_eq_false_iff_ne.2 (by omega)
  have d2 : decide ((n : Int) < 0) = false := decide_eq_false (by omega)
  have d3 : decide (8192 < (n : Int)) = false := decide_eq_false (by omega)
  have d4 : decide (n ≤ cs.size) = true := decide_eq_true hle
  go_enter Tryz.func163, Tryz.ntmps163
  go_wp2_with (first | (go_at_call 204; refine HMUL.out.mono ?_; rintro e w' ⟨rfl, rfl⟩))
  have hle' : n ≤ cs.size := hle
  obtain ⟨S, hS⟩ : ∃ S, S = cs.size := ⟨_, rfl⟩
  rw [← hS] at HR1 hle'
  have HS := Lib.hid hS
  clear hcp hcall hS d4 hle
  go_loopw [10, 11] (fun i _ wr => ∃ k : Nat, 1 ≤ k ∧ k ≤ n ∧ i = .int .i64 (k : Int) ∧ Hid (FFRow wr g S k) ∧ Hid (Below g w wr)) (fun i _ _ => n - (intOf i).toNat)
  case atStart => exact ⟨1, by omega, h1, rfl, HR1, HB1⟩
  case round =>
    obtain ⟨k, hk1, hk, rfl, hR, hB⟩ := hrel
    by_cases hlt : k < n
    · obtain ⟨m, hm⟩ : ∃ m, m = min k (n - k) := ⟨_, rfl⟩
      obtain ⟨W3, hcp, HR3, hb3⟩ := ff_copy wr.drew g S n k m k n 3 ⟨g, 0, none⟩ hR.out.drew hle' hk hm (fun j hj => by rw [add_zero_addr]; exact hR.out.drew.cell j (by omega))
      have HB3 := Lib.hid (hb3 g w hB.out.drew (Nat.le_refl _))
      have hm1 : 1 ≤ m := by omega
      have hm2 : k + m ≤ n := by omega
      have dk : decide (n = k) = false := decide_eq_false (by omega)
      have hmin : min (k : Int) (n : Int) = (k : Int) := by omega
      clear hm hb3
      go_wp2
      go_region
      all_goals go_wp2
      go_roundw
      case rel => exact ⟨k + m, by omega, by omega, by go_num, HR3, HB3⟩
      case measure => simp [intOf]; omega
    · have hd : decide (k < n) = false := decide_eq_false hlt
      obtain rfl : k = n := by omega
      go_wp2
      go_ret
      obtain ⟨L, hL, hs, hc⟩ := hR.out
      refine ⟨_, rfl, ⟨g, k, L, (0, 0), by simp, by rw [HGS.out]; exact Nat.le_refl _, hL, .inl rfl, by simp, by unfold maxLen; omega, by rw [hs]; exact hle', fun j hj => ?_⟩, Upd.of_below (by have := hB.out; rw [HGS.out] at this; exact this) _⟩
      rw [List.length_replicate] at hj
      rw [hc j hj, List.getElem_replicate]; rfl
end Go.Proofs.YtoledgpcgjdjjaaGreatDoor

/- Walks over package nand: Read of any page, where no bits turn. -/
namespace Go.Proofs.YtoledgpcgjdjjaaGreatDoor
open Go.RowKit

set_option maxRecDepth 100000 in
theorem shown_erased (q np sz p : Nat) (B : Bk) (w : World) (h : PgsIn w q np sz B) (hp : p < np) (hs : (B.pg p).st = 0) (n : Nat) (h1 : 1 ≤ n) (hn : n ≤ 2048) :
    Calls Tryz.prog 120 #[.pointer (some ⟨q, 3 * p, none⟩), .int .i64 (n : Int)] w fun e w' => ShowsW w w' e (List.replicate n 255) := by
  obtain ⟨c0, _, _, _⟩ := pgs_cells h hp
  rw [hs] at c0
  have hbs : (w.alloc (.cells #[.int .u8 255] 5)).cell? ⟨w.heap.size, 0, none⟩ = some (.int .u8 255) := cell_of (heap_alloc_new w (.cells #[.int .u8 255] 5)) 0
  have HR := Lib.hid (repeat_ff n w.heap.size _ h1 hn hbs)
  clear h hs hbs
  go_enter Tryz.func120, Tryz.ntmps120
  go_wp2_with (go_at_call 163; refine HR.out.mono ?_; rintro e w2 ⟨v, rfl, hb, hu⟩; have HB := Lib.hid hb; have HU := Lib.hid hu; clear hb hu)
  go_ret
  exact ⟨_, rfl, HB.out.more (by simp), ((Upd.refl noBlock w).alloc _).trans HU.out⟩
theorem shown_any {M : Ch} (b p : Nat) (q : Nat) (hp : p < M.np) (h1 : 1 ≤ M.sz) (hz : M.sz ≤ 2048) (hst : ((M.bk b).pg p).st ≤ 2) (w1 : World) (h : PgsIn w1 q M.np M.sz (M.bk b)) :
    Calls Tryz.prog 120 #[.pointer (some ⟨q, 3 * p, none⟩), .int .i64 (M.sz : Int)] w1 fun e w2 => ShowsW w1 w2 e (((M.bk b).pg p).show M.sz) := by
  have : ((M.bk b).pg p).st = 0 ∨ ((M.bk b).pg p).st = 1 ∨ ((M.bk b).pg p).st = 2 := by omega
  rcases this with e | e | e
  · have := shown_erased q M.np M.sz p (M.bk b) w1 h hp e M.sz h1 hz
    unfold Pg.show; rw [if_pos e]; exact this
  · have := shown_written q M.np M.sz p (M.bk b) w1 h hp e M.sz hz
    unfold Pg.show; rw [if_neg (by omega), if_pos e]; exact this
  · have := shown_spoilt q M.np M.sz p (M.bk b) w1 h hp e M.sz hz
    unfold Pg.show; rw [if_neg (by omega), if_neg (by omega)]; exact this
theorem read_in (c bb : Nat) (pb : Nat → Nat) (M : Ch) (x y : Int) (b p n : Nat) (hx : x = (b : Int)) (hy : y = (p : Int)) (s : ByteArray) (hsl : s = ⟨(((M.bk b).pg p).show M.sz).toArray⟩) (w : World) (h : ChipIn w c bb pb M) (hF : M.Fit n) (hn : n < 4611686018427387904) (hb : b < M.nb) (hp : p < M.np) (h1 : 1 ≤ M.sz) (ho : M.off = false) (hq : M.most < 1 ∨ M.piece < 1) (hst : ((M.bk b).pg p).st ≤ 2) :
    Calls Tryz.prog 98 #[.pointer (some ⟨c, 0, none⟩), .int .i64 x, .int .i64 y] w fun e w' => e = .returned (.tuple #[.string s, .int .i64 0]) ∧ ChipIn w' c bb pb (M.readM b) ∧ Upd (Own c bb pb M.nb) w w' :=
  read_at c bb pb M x y b p n hx hy _ s hsl w h hF hn hb hp ho hq (fun w1 hw => shown_any b p _ hp h1 h.sz hst w1 hw)
end Go.Proofs.YtoledgpcgjdjjaaGreatDoor
