/- spread: the bytes of pieces. -/
import Derived.Test.YtcfilepilgjlaaaDoorEb
import Derived.Test.YtcfilepilgjlaaaDoorSt
import Derived.Deep.OwnRows
namespace Go.Proofs.YtcfilepilgjlaaaDoor
open Go.RowKit

theorem strInfo8 : (Tryd.prog.info? 9).map (fun i => (i.zero, i.size, i.bytes)) = some (some (.string ⟨#[]⟩), 1, 16) := by kernel_rfl
theorem slice8 (w : World) (g o n c a b : Nat) (x y : Int) (hx : x = (a : Int)) (hy : y = (b : Int)) (hab : a ≤ b) (hb : b ≤ c) (ha : a < c) :
    (Instr.sliceAt 37 (.slice (some ⟨g, o, none⟩) n c) (some (.int .i64 x)) (some (.int .i64 y)) none).run Tryd.prog w = .ok (.slice (some ⟨g, o + a, none⟩) (b - a) (c - a)) w := by
  obtain ⟨i0, hi0, _, hz1, _⟩ := info_parts byteInfoB
  subst hx hy
  have h1 : (a : Int) ≤ (b : Int) := by omega
  have h2 : (b : Int) ≤ (c : Int) := by omega
  have h3 : ¬ c = a := by omega
  simp [Instr.sliceAt, Instr.slice, run_underlying Tryd.underlying37, Instr.sliceBounds, run_sliceBound, sizeOf, typeInfo, hi0, hz1, h1, h2, h3, Addr.add]
theorem slice8lo (w : World) (g o n c a : Nat) (x : Int) (hx : x = (a : Int)) (hb : a ≤ n) (ha : a < c) :
    (Instr.sliceAt 37 (.slice (some ⟨g, o, none⟩) n c) (some (.int .i64 x)) none none).run Tryd.prog w = .ok (.slice (some ⟨g, o + a, none⟩) (n - a) (c - a)) w := by
  obtain ⟨i0, hi0, _, hz1, _⟩ := info_parts byteInfoB
  subst hx
  have h := run_slice_hi1 w 37 5 i0 Tryd.underlying37 hi0 hz1 (some ⟨g, o, none⟩) n c a hb
  rw [h, if_neg (by omega)]
  simp [Addr.add]
theorem make8 (m : Nat) (V : Int) (hV : V = (m : Int)) (hm : m ≤ 2147483647) : ∀ w : World, (Instr.makeSlice 37 (.int .i64 V) (.int .i64 V)).run Tryd.prog w = .ok (.slice (some ⟨w.heap.size, 0, none⟩) m m) (w.alloc (.cells (madeCells #[.int .u8 0] m) 5)) := by
  subst hV
  exact run_make_row' (P := Tryd.prog) 37 5 (.int .u8 0) 1 Tryd.underlying37 byteInfoB rfl .i64 .i64 m (by omega) (by omega)
theorem Strs.head8 {w : World} {B n k c : Nat} {A : Option Addr} {Ss : List ByteArray} (h : Strs w B A n Ss) (hk : k ≤ n) : Strs w B (if c = 0 then A else A.map (·.add 0)) k (Ss.take k) :=
  ⟨by rw [List.map_take]; exact Row1.head w h.row hk, fun s hs => h.fit s (List.mem_of_mem_take hs)⟩
/-- byte j of pieces one behind the other -/
def spF (Ss : List ByteArray) (j : Nat) : UInt8 := (Ss.getD (j / 64) ⟨#[]⟩).data.toList.getD (j % 64) 0
def stF (Ss : List ByteArray) (k j : Nat) : UInt8 := if j < k * 64 then spF Ss j else 0
theorem stF_zero (Ss : List ByteArray) : stF Ss 0 = fun _ => 0 := by funext j; unfold stF; rw [if_neg (by omega)]
theorem stF_step (Ss : List ByteArray) (k : Nat) (s : ByteArray) (hs : Ss.getD k ⟨#[]⟩ = s) (j : Nat) : laid (stF Ss k) (k * 64) (s.data.toList.take (min s.size 64)) (min s.size 64) j = stF Ss (k + 1) j := by
  have hsz : s.data.toList.length = s.size := rfl
  unfold laid
  by_cases h1 : j < k * 64
  · rw [if_neg (by omega)]
    unfold stF
    rw [if_pos h1, if_pos (by omega)]
  · by_cases h2 : j < (k + 1) * 64
    · have e1 : j / 64 = k := by omega
      have e2 : j % 64 = j - k * 64 := by omega
      have e3 : stF Ss (k + 1) j = s.data.toList.getD (j - k * 64) 0 := by
        unfold stF spF; rw [if_pos h2, e1, e2, hs]
      rw [e3]
      split
      · rename_i h
        rw [List.getD_eq_getElem?_getD, List.getElem?_take, if_pos (by omega), ← List.getD_eq_getElem?_getD]
      · rename_i h
        have e4 : stF Ss k j = 0 := by unfold stF; rw [if_neg h1]
        rw [e4, List.getD_eq_getElem?_getD, List.getElem?_eq_none (by omega)]
        rfl
    · rw [if_neg (by omega)]
      unfold stF
      rw [if_neg h1, if_neg h2]
theorem stF_all (Ss : List ByteArray) (m k : Nat) (hk : k = min m Ss.length) (j : Nat) (hj : j < m * 64) : stF Ss k j = spF Ss j := by
  unfold stF
  split
  · rfl
  · have e : Ss.getD (j / 64) ⟨#[]⟩ = ⟨#[]⟩ := by rw [List.getD_eq_getElem?_getD, List.getElem?_eq_none (by omega)]; rfl
    unfold spF
    rw [e]
    rfl
set_option maxRecDepth 100000 in
set_option maxHeartbeats 3200000 in
theorem spread_any (a : Option Addr) (n0 c B m : Nat) (Ss : List ByteArray) (w : World) (hr : Strs w B a n0 Ss) (hB : B ≤ w.heap.size) (hn : n0 ≤ c) (hm1 : 1 ≤ m) (hm : m ≤ 512) :
    Calls Tryd.prog 15 #[.slice a n0 c, .int .i64 (m : Int)] w fun e w' => ∃ g, e = .returned (.slice (some ⟨g, 0, none⟩) (m * 64) (m * 64)) ∧ w.heap.size ≤ g ∧ R8 w' g (m * 64) (spF Ss) ∧ Upd noBlock w w' := by
  obtain ⟨i0, hi0, hz0, hz1, hz2⟩ := info_parts strInfo8
  have hmk := make8 (m * 64) ((m : Int) * 64) (by omega) (by omega)
  obtain ⟨K, hK⟩ : ∃ K, min m n0 = K := ⟨_, rfl⟩
  have HS := Lib.hid (hr.head8 (k := K) (c := c) (by omega))
  have HBB := Lib.hid hB
  have hlen : Ss.length = n0 := hr.len
  have HE : Hid (K = min m Ss.length) := by show _ = _; rw [hlen]; exact hK.symm
  have htk : ∀ k, k < K → (Ss.take K).getD k ⟨#[]⟩ = Ss.getD k ⟨#[]⟩ := fun k hk => by
    rw [List.getD_eq_getElem?_getD, List.getElem?_take, if_pos hk, ← List.getD_eq_getElem?_getD]
  have HTK := Lib.hid htk
  have hhi : ∀ w : World, (Instr.sliceAt 23 (.slice a n0 c) none (some (.int .i64 (min (m : Int) (n0 : Int)))) none).run Tryd.prog w = .ok (.slice (if c = 0 then a else a.map (·.add 0)) K c) w := fun w => by
    rw [show min (m : Int) (n0 : Int) = (K : Int) by omega]
    exact run_slice_lo1 w 23 9 i0 Tryd.underlying23 hi0 a n0 c K (by omega) hn
  obtain ⟨A, hA⟩ : ∃ A, (if c = 0 then a else a.map (·.add 0)) = A := ⟨_, rfl⟩
  rw [hA] at HS hhi
  have hKm : K ≤ m := by omega
  clear hr hB hn hA hlen htk hK
  go_enter Tryd.func15, Tryd.ntmps15
  go_wp2
  have B0 : Hid (R8 (w.alloc (.cells (madeCells #[.int .u8 0] (m * 64)) 5)) w.heap.size (m * 64) (stF Ss 0)) := by rw [stF_zero]; exact R8.made w (m * 64)
  have U0 : Hid (Upd noBlock w (w.alloc (.cells (madeCells #[.int .u8 0] (m * 64)) 5))) := (Upd.refl _ _).alloc _
  clear hmk hhi
  go_loopw [18] (fun i wr => ∃ k : Nat, k ≤ K ∧ i = .int .i64 (k : Int) ∧ Hid (R8 wr w.heap.size (m * 64) (stF Ss k)) ∧ Hid (Upd noBlock w wr)) (fun i _ => K - (intOf i).toNat)
  case atStart => exact ⟨0, Nat.zero_le _, rfl, B0, U0⟩
  case round =>
    clear B0 U0
    obtain ⟨k, hk, rfl, HR, HU⟩ := hrel
    by_cases h0 : k < K
    · obtain ⟨b, off, hab, hb, hc⟩ := HS.out.cell (by omega)
      subst hab
      obtain ⟨s, hs⟩ : ∃ s, Ss.getD k ⟨#[]⟩ = s := ⟨_, rfl⟩
      have c1 : wr.cell? ⟨b, off + k, none⟩ = some (.string s) := by rw [← hs, ← HTK.out k h0]; exact (World.cell?_of_block (HU.out.block b (by have := HBB.out; omega) (fun h => h))).trans (hc k h0)
      obtain ⟨w2, hrun, hR2, hU2⟩ := HR.out.copyS (k * 64) 64 (m * 64 - k * 64) s 3 (by omega)
      have HR2 : Hid (R8 w2 w.heap.size (m * 64) (stF Ss (k + 1))) := hR2.congr fun j _ => stF_step Ss k s hs j
      have HU2 : Hid (Upd noBlock w w2) := HU.out.step hU2 (fun i hi e => by unfold oneBlock at e; omega)
      have hsl : ∀ w' : World, (Instr.sliceAt 37 (.slice (some ⟨w.heap.size, 0, none⟩) (m * 64) (m * 64)) (some (.int .i64 ((k : Int) * 64))) (some (.int .i64 (((k : Int) + 1) * 64))) none).run Tryd.prog w' = .ok (.slice (some ⟨w.heap.size, k * 64, none⟩) 64 (m * 64 - k * 64)) w' := fun w' => by
        have := slice8 w' w.heap.size 0 (m * 64) (m * 64) (k * 64) ((k + 1) * 64) ((k : Int) * 64) (((k : Int) + 1) * 64) (by omega) (by omega) (by omega) (by omega) (by omega)
        rwa [Nat.zero_add, show (k + 1) * 64 - k * 64 = 64 by omega] at this
      clear hR2 hU2 hc hs HR HU hb
      go_wp2
      go_roundw
      case rel => exact ⟨k + 1, by omega, by go_num, HR2, HU2⟩
      case measure => simp [intOf] <;> omega
    · obtain rfl : k = K := by omega
      have HR2 : Hid (R8 wr w.heap.size (m * 64) (spF Ss)) := HR.out.congr fun j hj => stF_all Ss m k HE.out j hj
      go_wp2
      go_ret
      exact ⟨_, rfl, Nat.le_refl _, HR2.out, HU.out⟩
end Go.Proofs.YtcfilepilgjlaaaDoor
