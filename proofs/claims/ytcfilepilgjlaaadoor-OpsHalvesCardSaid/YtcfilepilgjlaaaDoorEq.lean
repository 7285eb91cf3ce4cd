/- OpsHalves. -/
import Derived.Test.YtcfilepilgjlaaaDoorEp
import Derived.Test.YtcfilepilgjlaaaDoorEl
import Derived.Test.YtcfilepilgjlaaaDoorAr
import Derived.Deep.RegionLaw
import Derived.BigQuiet
import Derived.Deep.RegionHeldLaw
namespace Go.Proofs.YtcfilepilgjlaaaDoor
open Go.RowKit

def hvG (x : Nat) : UInt8 := UInt8.ofNat (x / 64 * 7 + x % 64)
def hvF (i k : Nat) : UInt8 := UInt8.ofNat (i * 7 + k)
def hvB (i : Nat) : ByteArray := ⟨(bytesAt (hvF i) 0 64).toArray⟩
theorem hvB_get (i k : Nat) (h : k < 64) : (hvB i).data.toList.getD k 0 = UInt8.ofNat (i * 7 + k) := by
  show (bytesAt (hvF i) 0 64).getD k 0 = _
  rw [List.getD_eq_getElem?_getD, List.getElem?_eq_getElem (by rw [bytesAt_length]; exact h), Option.getD_some, bytesAt_get, Nat.zero_add]
  rfl
theorem hvB_size (i : Nat) : (hvB i).size ≤ maxLen := by
  show (bytesAt (hvF i) 0 64).length ≤ _
  rw [bytesAt_length]; unfold maxLen; omega
theorem hv_sp (F m j : Nat) (h : j < m * 64) : spF (strsAt hvB F m) j = hvG (F * 64 + j) := by
  rw [spF_strs hvB F m j h, hvB_get _ _ (by omega)]
  unfold hvG
  rw [show (F * 64 + j) / 64 = F + j / 64 by omega, show (F * 64 + j) % 64 = j % 64 by omega]
/-- how many bytes are read -/
def hvN (S o n : Int) : Nat := (max (min n (S - o)) 0).toNat
theorem hv_read (S o n : Int) (ho : 0 ≤ o) (hS : S ≤ 8192) (hn : n ≤ 8192) :
    rdL S o n (strsAt hvB (spanA o (hvN S o n : Int)).1.toNat ((spanA o (hvN S o n : Int)).2 - (spanA o (hvN S o n : Int)).1).toNat) = bytesAt hvG o.toNat (hvN S o n) := by
  obtain ⟨N, hN⟩ : ∃ N, hvN S o n = N := ⟨_, rfl⟩
  have hN' := hN
  unfold hvN at hN'
  rw [hN]
  by_cases h : 0 ≤ o ∧ o < S ∧ 1 ≤ n
  · have hsp : spanA o (N : Int) = (o / 64, pcs (o + (N : Int))) := if_pos ⟨ho, by omega, by omega, by omega⟩
    have hp := pcs_eq (o + (N : Int))
    rw [hsp]
    unfold rdL
    rw [if_pos h]
    have e1 : (min n (S - o)).toNat = N := by omega
    rw [e1]
    apply List.ext_getElem
    · rw [bytesAt_length, bytesAt_length]
    · intro i h1 h2
      rw [bytesAt_length] at h1
      rw [bytesAt_get, bytesAt_get, hv_sp _ _ _ (by show _ < (pcs (o + (N : Int)) - o / 64).toNat * 64; omega)]
      congr 1
      show (o / 64).toNat * 64 + ((o % 64).toNat + i) = _
      omega
  · have e0 : N = 0 := by omega
    unfold rdL
    rw [if_neg h, e0]; rfl
theorem bytesAt_add (f : Nat → UInt8) (o m n : Nat) : bytesAt f o m ++ bytesAt f (o + m) n = bytesAt f o (m + n) := by
  apply List.ext_getElem
  · rw [List.length_append, bytesAt_length, bytesAt_length, bytesAt_length]
  · intro i h1 h2
    rw [bytesAt_get]
    by_cases h : i < m
    · rw [List.getElem_append_left (by rw [bytesAt_length]; exact h), bytesAt_get]
    · rw [List.getElem_append_right (by rw [bytesAt_length]; omega), bytesAt_get, bytesAt_length]
      congr 1; omega
theorem hv_join (S o a b : Int) (ho : 0 ≤ o) (ha : 0 ≤ a) (hb : 0 ≤ b) : bytesAt hvG o.toNat (hvN S o a) ++ bytesAt hvG (o + a).toNat (hvN S (o + a) b) = bytesAt hvG o.toNat (hvN S o (a + b)) := by
  unfold hvN
  by_cases h : o + a ≤ S
  · have e1 : (max (min a (S - o)) 0).toNat = a.toNat := by omega
    have e2 : (o + a).toNat = o.toNat + a.toNat := by omega
    rw [e1, e2, bytesAt_add]
    congr 1; omega
  · have e1 : (max (min b (S - (o + a))) 0).toNat = 0 := by omega
    rw [e1]
    have e2 : bytesAt hvG (o + a).toNat 0 = [] := rfl
    rw [e2, List.append_nil]
    congr 1; omega
def T3 (w : World) (g n : Nat) (f : Nat → ByteArray) : Prop :=
  ∃ cur : Array Value, w.heap[g]? = some (.cells cur 49) ∧ n ≤ cur.size ∧ ∀ j, j < n → cur[j]? = some (.string (f j))
theorem T3.lt {w : World} {g n : Nat} {f : Nat → ByteArray} (h : T3 w g n f) : g < w.heap.size := by
  obtain ⟨cur, hg, _⟩ := h; exact lt_of_block hg
theorem T3.cell {w : World} {g n : Nat} {f : Nat → ByteArray} (h : T3 w g n f) (j : Nat) (hj : j < n) : w.cell? ⟨g, j, none⟩ = some (.string (f j)) := by
  obtain ⟨cur, hg, _, hc⟩ := h
  rw [cell_of hg]; exact hc j hj
theorem T3.free {w : World} {g n : Nat} {f : Nat → ByteArray} (h : T3 w g n f) (j : Nat) : w.frozen? ⟨g, j, none⟩ = false := by
  obtain ⟨cur, hg, _, _⟩ := h
  exact free_of hg j
theorem T3.keep {w w' : World} {g n : Nat} {f : Nat → ByteArray} (h : T3 w g n f) (hk : w'.heap[g]? = w.heap[g]?) : T3 w' g n f := by
  obtain ⟨cur, hg, r⟩ := h
  exact ⟨cur, hk.trans hg, r⟩
theorem T3.grow {w w' : World} {g n : Nat} {f : Nat → ByteArray} (h : T3 w g n f) (hu : Upd noBlock w w') : T3 w' g n f := h.keep (hu.block g h.lt (fun h => h))
theorem T3.congr {w : World} {g n : Nat} {f f' : Nat → ByteArray} (h : T3 w g n f) (hf : ∀ j, j < n → f j = f' j) : T3 w g n f' := by
  obtain ⟨cur, hg, hs, hc⟩ := h
  exact ⟨cur, hg, hs, fun j hj => by rw [← hf j hj]; exact hc j hj⟩
theorem T3.set {w : World} {g n : Nat} {f : Nat → ByteArray} (h : T3 w g n f) (i : Nat) (v : ByteArray) : T3 (w.setCell ⟨g, i, none⟩ (.string v)) g n (fun j => if j = i then v else f j) := by
  obtain ⟨cur, hg, hs, hc⟩ := h
  refine ⟨_, block_set hg _, by rw [Array.size_setIfInBounds]; exact hs, fun j hj => ?_⟩
  rw [Array.getElem?_setIfInBounds]
  by_cases e1 : j = i
  · subst e1
    rw [if_pos rfl, if_pos (by omega)]
    simp only [if_true]
  · rw [if_neg (Ne.symm e1)]
    simp only [if_neg e1]
    exact hc j hj
theorem sliceS (w : World) (g n a b : Nat) (x y : Int) (hx : x = (a : Int)) (hy : y = (b : Int)) (hab : a ≤ b) (hb : b ≤ n) (ha : a < n) :
    (Instr.sliceAt 23 (.slice (some ⟨g, 0, none⟩) n n) (some (.int .i64 x)) (some (.int .i64 y)) none).run Tryd.prog w = .ok (.slice (some ⟨g, a, none⟩) (b - a) (n - a)) w := by
  obtain ⟨i0, hi0, _, hz1, _⟩ := strParts8
  subst hx hy
  have h1 : (a : Int) ≤ (b : Int) := by omega
  have h2 : (b : Int) ≤ (n : Int) := by omega
  have h3 : ¬ n = a := by omega
  simp [Instr.sliceAt, Instr.slice, run_underlying Tryd.underlying23, Instr.sliceBounds, run_sliceBound, sizeOf, typeInfo, hi0, hz1, h1, h2, h3, Addr.add]
  try (intro h; exact h.symm)
set_option maxRecDepth 100000 in
set_option maxHeartbeats 3200000 in
theorem opsHalves_upd (s0 o0 x0 y0 : Int) (w : World) :
    Calls Tryd.prog 6 #[.int .i64 s0, .int .i64 o0, .agg #[.int .i64 x0, .int .i64 y0]] w fun e w' => e = .returned (.bool true) ∧ Upd noBlock w w' := by
  obtain ⟨wa, hwa⟩ : ∃ W : World, W = w.alloc (.cells #[.int .i64 x0, .int .i64 y0] 48) := ⟨_, rfl⟩
  have ha : wa.heap[w.heap.size]? = some (.cells #[.int .i64 x0, .int .i64 y0] 48 (0, 0)) := by rw [hwa]; exact heap_alloc_new w _
  have ua : Upd noBlock w wa := by rw [hwa]; exact (Upd.refl _ _).alloc _
  have HBK : Hid (∀ W, Upd noBlock wa W → W.heap[w.heap.size]? = some (.cells #[.int .i64 x0, .int .i64 y0] 48 (0, 0)) ∧ Upd noBlock w W) := fun W hu =>
    ⟨(hu.block _ (lt_of_block ha) (fun h => h)).trans ha, ua.trans hu⟩
  have HWA := Lib.hid hwa
  obtain ⟨bad, hbad⟩ : ∃ b : Bool, decide (s0 < 0 ∨ 8192 < s0 ∨ o0 < 0 ∨ 8192 < o0 ∨ x0 < 0 ∨ 2000 < x0 ∨ y0 < 0 ∨ 2000 < y0) = b := ⟨_, rfl⟩
  have HBAD := Lib.hid hbad
  clear ha ua hwa hbad
  go_enter Tryd.func6, Tryd.ntmps6
  go_upto_region 3 with (go_at_call 7; refine (speaksE_any _).mono ?_; rintro e w1 ⟨rfl, u1⟩; rw [← HWA.out] at u1; (obtain ⟨xb, xu⟩ := HBK.out w1 u1); have c0 := cell_of xb 0; have c1 := cell_of xb 1; have cf := free_of xb; have HW1 := Lib.hid xu; have HXB := Lib.hid xb; clear u1 xu xb)
  clear HBK HWA
  go_cut [52] from 19 to 163 (fun x wx => x = .bool bad ∧ w1 = wx)
  case first =>
    have hcase : (bad = true ∧ (s0 < 0 ∨ (0 ≤ s0 ∧ 8192 < s0) ∨ (0 ≤ s0 ∧ s0 ≤ 8192 ∧ o0 < 0) ∨ (0 ≤ s0 ∧ s0 ≤ 8192 ∧ 0 ≤ o0 ∧ 8192 < o0) ∨ (0 ≤ s0 ∧ s0 ≤ 8192 ∧ 0 ≤ o0 ∧ o0 ≤ 8192 ∧ x0 < 0) ∨ (0 ≤ s0 ∧ s0 ≤ 8192 ∧ 0 ≤ o0 ∧ o0 ≤ 8192 ∧ 0 ≤ x0 ∧ 2000 < x0) ∨ (0 ≤ s0 ∧ s0 ≤ 8192 ∧ 0 ≤ o0 ∧ o0 ≤ 8192 ∧ 0 ≤ x0 ∧ x0 ≤ 2000 ∧ y0 < 0) ∨ (0 ≤ s0 ∧ s0 ≤ 8192 ∧ 0 ≤ o0 ∧ o0 ≤ 8192 ∧ 0 ≤ x0 ∧ x0 ≤ 2000 ∧ 0 ≤ y0 ∧ 2000 < y0))) ∨
        (bad = false ∧ 0 ≤ s0 ∧ s0 ≤ 8192 ∧ 0 ≤ o0 ∧ o0 ≤ 8192 ∧ 0 ≤ x0 ∧ x0 ≤ 2000 ∧ 0 ≤ y0 ∧ y0 ≤ 2000) := by
      rw [← HBAD.out]
      by_cases h : s0 < 0 ∨ 8192 < s0 ∨ o0 < 0 ∨ 8192 < o0 ∨ x0 < 0 ∨ 2000 < x0 ∨ y0 < 0 ∨ 2000 < y0
      · exact .inl ⟨decide_eq_true h, by omega⟩
      · exact .inr ⟨decide_eq_false h, by omega⟩
    rcases hcase with ⟨rfl, p1 | ⟨p1, p2⟩ | ⟨p1, p2, p3⟩ | ⟨p1, p2, p3, p4⟩ | ⟨p1, p2, p3, p4, p5⟩ | ⟨p1, p2, p3, p4, p5, p6⟩ | ⟨p1, p2, p3, p4, p5, p6, p7⟩ | ⟨p1, p2, p3, p4, p5, p6, p7, p8⟩⟩ | ⟨rfl, p1, p2, p3, p4, p5, p6, p7, p8⟩
    all_goals
      go_wp2_with fail
      go_meet
      exact ⟨by first | rfl | (congr 1; simp; omega), rfl⟩
  case rest =>
  obtain ⟨rfl, hwx⟩ := hcut
  subst hwx
  obtain ⟨wb, rfl⟩ : ∃ wb : World, wb = w1 := ⟨_, rfl⟩
  go_upto_if 52 with fail
  go_cut [0, 1] from 19 to 163 (fun v0 v1 wx => ∃ S O a b : Int, v0 = .int .i64 S ∧ v1 = .int .i64 O ∧ 0 ≤ S ∧ S ≤ 8192 ∧ 0 ≤ O ∧ O ≤ 8192 ∧ 0 ≤ a ∧ a ≤ 2000 ∧ 0 ≤ b ∧ b ≤ 2000 ∧ Hid (wx.heap[w.heap.size]? = some (.cells #[.int .i64 a, .int .i64 b] 48 (0, 0))) ∧ Hid (Upd noBlock w wx))
  case first =>
    cases hbb : bad
    · rw [hbb] at HBAD
      have hb := of_decide_eq_false HBAD.out
      go_wp2_with fail
      go_meet
      exact ⟨s0, o0, x0, y0, rfl, rfl, by omega, by omega, by omega, by omega, by omega, by omega, by omega, by omega, HXB, HW1⟩
    · go_wp2_with fail
      go_meet
      exact ⟨300, 10, 70, 80, rfl, rfl, by decide, by decide, by decide, by decide, by decide, by decide, by decide, by decide, block_set (block_set HXB.out _) _, (HW1.out.setCell (.inr (Nat.le_refl _)) _).setCell (.inr (Nat.le_refl _)) _⟩
  case rest =>
  obtain ⟨S, O, a, b, rfl, rfl, hS0, hS1, hO0, hO1, ha0, ha1, hb0, hb1, HX, HU⟩ := hcut
  clear HBAD c0 c1 cf HW1 HXB
  obtain ⟨wc0, rfl⟩ : ∃ W : World, W = wc := ⟨_, rfl⟩
  have hmkS := makeS 140 140 rfl (by decide)
  have R0 : Hid (RS (wc0.alloc (.cells (madeCells #[.string ⟨#[]⟩] 140) 9)) wc0.heap.size 140 (fun j => if j < 0 then hvB j else ⟨#[]⟩)) := RS.made wc0 140
  have V0 := Lib.hid ((Upd.refl noBlock wc0).alloc (.cells (madeCells #[.string ⟨#[]⟩] 140) 9))
  go_wp2
  go_loopw [8] (fun i wr => ∃ k : Nat, k ≤ 140 ∧ i = .int .i64 (k : Int) ∧ Hid (RS wr wc0.heap.size 140 (fun j => if j < k then hvB j else ⟨#[]⟩)) ∧ Hid (Upd noBlock wc0 wr)) (fun i _ => 140 - (intOf i).toNat)
  case atStart => exact ⟨0, Nat.zero_le _, rfl, R0, V0⟩
  case round =>
    clear R0 V0 hmkS
    obtain ⟨k, hk, rfl, HR, HV⟩ := hrel
    by_cases h0 : k < 140
    · obtain ⟨wo, rfl⟩ : ∃ wo : World, wo = wr := ⟨_, rfl⟩
      have hmk8 := make8 64 64 rfl (by decide)
      have Q0 : Hid (R8 (wo.alloc (.cells (madeCells #[.int .u8 0] 64) 5)) wo.heap.size 64 (fun j => if j < 0 then hvF k j else 0)) := R8.made wo 64
      have T0 := Lib.hid ((Upd.refl noBlock wo).alloc (.cells (madeCells #[.int .u8 0] 64) 5))
      go_wp2
      go_loopw [10] (fun i wr => ∃ m : Nat, m ≤ 64 ∧ i = .int .i64 (m : Int) ∧ Hid (R8 wr wo.heap.size 64 (fun j => if j < m then hvF k j else 0)) ∧ Hid (Upd noBlock wo wr)) (fun i _ => 64 - (intOf i).toNat)
      case atStart => exact ⟨0, Nat.zero_le _, rfl, Q0, T0⟩
      case round =>
        clear Q0 T0 hmk8
        obtain ⟨m, hm, rfl, HQ, HT⟩ := hrel
        by_cases m0 : m < 64
        · have cc := HQ.out.cell m m0
          have ff := HQ.out.free m
          have hwr : IntKind.u8.wrap ((k : Int) * 7 + (m : Int)) = (((hvF k m).toNat : Nat) : Int) := by
            rw [IntKind.wrap_u8]
            unfold hvF
            rw [UInt8.toNat_ofNat', show 2 ^ 8 = 256 from rfl]
            omega
          have HQ2 : Hid (R8 (wr.setCell ⟨wo.heap.size, m, none⟩ (.int .u8 (((hvF k m).toNat : Nat) : Int))) wo.heap.size 64 (fun j => if j < m + 1 then hvF k j else 0)) := (HQ.out.set m (hvF k m)).congr fun j _ => by
            by_cases e : j = m
            · subst e; rw [if_pos rfl, if_pos (by omega)]
            · rw [if_neg e]
              by_cases e2 : j < m
              · rw [if_pos e2, if_pos (by omega)]
              · rw [if_neg e2, if_neg (by omega)]
          have HT2 : Hid (Upd noBlock wo (wr.setCell ⟨wo.heap.size, m, none⟩ (.int .u8 (((hvF k m).toNat : Nat) : Int)))) := HT.out.setCell (.inr (Nat.le_refl _)) _
          clear HQ HT
          go_wp2
          go_roundw
          case rel => exact ⟨m + 1, by omega, by go_num, HQ2, HT2⟩
          case measure => simp [intOf] <;> omega
        · obtain rfl : m = 64 := by omega
          have hq := (HQ.out.congr (f' := hvF k) fun j hj => if_pos hj).textAll
          obtain ⟨q, hqq⟩ : ∃ q, hvB k = q := ⟨_, rfl⟩
          have hq' : (convert 37 9 (.slice (some ⟨wo.heap.size, 0, none⟩) 64 64)).run Tryd.prog wr = .ok (.string q) wr := by rw [← hqq]; exact hq
          have cc := (HR.out.grow HT.out).cell k h0
          have ff := (HR.out.grow HT.out).free k
          have HR2 : Hid (RS (wr.setCell ⟨wc0.heap.size, k, none⟩ (.string q)) wc0.heap.size 140 (fun j => if j < k + 1 then hvB j else ⟨#[]⟩)) := ((HR.out.grow HT.out).set k q).congr fun j _ => by
            by_cases e : j = k
            · subst e; rw [if_pos rfl, if_pos (by omega), hqq]
            · rw [if_neg e]
              by_cases e2 : j < k
              · rw [if_pos e2, if_pos (by omega)]
              · rw [if_neg e2, if_neg (by omega)]
          have HV2 : Hid (Upd noBlock wc0 (wr.setCell ⟨wc0.heap.size, k, none⟩ (.string q))) := (HV.out.trans HT.out).setCell (.inr (Nat.le_refl _)) _
          clear HR HV HQ HT hq hqq
          go_wp2
          go_roundw
          case rel => exact ⟨k + 1, by omega, by go_num, HR2, HV2⟩
          case measure => simp [intOf] <;> omega
    · obtain rfl : k = 140 := by omega
      have HRR : Hid (RS wr wc0.heap.size 140 hvB) := HR.out.congr fun j hj => if_pos hj
      have HXX : Hid (∀ W, Upd noBlock wr W → W.cell? ⟨w.heap.size, 0, none⟩ = some (.int .i64 a) ∧ W.cell? ⟨w.heap.size, 1, none⟩ = some (.int .i64 b)) := fun W hu => by
        have hb := ((HV.out.trans hu).block _ (lt_of_block HX.out) (fun h => h)).trans HX.out
        exact ⟨cell_of hb 0, cell_of hb 1⟩
      have HUU := Lib.hid (HU.out.trans HV.out)
      clear HR HV HU HX
      go_upto_region 16 with fail
      obtain ⟨w5, hw5⟩ : ∃ W : World, W = wr.alloc (.cells #[.string ⟨#[]⟩, .string ⟨#[]⟩, .string ⟨#[]⟩] 49) := ⟨_, rfl⟩
      have hA : w5.heap[wr.heap.size]? = some (.cells #[.string ⟨#[]⟩, .string ⟨#[]⟩, .string ⟨#[]⟩] 49 (0, 0)) := by rw [hw5]; exact heap_alloc_new wr _
      have hz5 : w5.heap.size = wr.heap.size + 1 := by rw [hw5, World.size_alloc]
      have u5 : Upd noBlock wr w5 := by rw [hw5]; exact (Upd.refl _ _).alloc _
      rw [← hw5]
      obtain ⟨x0, x1⟩ := HXX.out w5 u5
      obtain ⟨G5, hG5⟩ : ∃ G, w5.heap.size = G := ⟨_, rfl⟩
      obtain ⟨A5, hA5⟩ : ∃ G, wr.heap.size = G := ⟨_, rfl⟩
      rw [hA5] at hA ⊢
      have HA := Lib.hid hA
      have HU5 := Lib.hid u5
      have HZ5 : Hid (G5 = A5 + 1) := by show _ = _; omega
      clear hw5 hA u5 hz5
      go_wp2
      obtain ⟨w6, hw6⟩ : ∃ W : World, W = w5.alloc (.cells #[.int .i64 O, .int .i64 a, .int .i64 (O + a), .int .i64 b, .int .i64 O, .int .i64 (a + b)] 50) := ⟨_, rfl⟩
      have h6 : w6.heap[G5]? = some (.cells #[.int .i64 O, .int .i64 a, .int .i64 (O + a), .int .i64 b, .int .i64 O, .int .i64 (a + b)] 50 (0, 0)) := by rw [hw6, ← hG5]; exact heap_alloc_new w5 _
      have u6 : Upd noBlock w5 w6 := by rw [hw6]; exact (Upd.refl _ _).alloc _
      rw [← hw6]
      obtain ⟨aO, haO⟩ : ∃ f : Nat → Int, f = fun k => if k = 1 then O + a else O := ⟨_, rfl⟩
      obtain ⟨aN, haN⟩ : ∃ f : Nat → Int, f = fun k => if k = 0 then a else if k = 1 then b else a + b := ⟨_, rfl⟩
      have HCA : Hid (∀ W, Upd (oneBlock A5) w6 W → ∀ k, k < 3 → W.cell? ⟨G5, k * 2, none⟩ = some (.int .i64 (aO k)) ∧ W.cell? ⟨G5, k * 2 + 1, none⟩ = some (.int .i64 (aN k))) := fun W hu k hk => by
        have hb := (hu.block _ (lt_of_block h6) (fun h => by have := HZ5.out; unfold oneBlock at h; omega)).trans h6
        have hk' : k = 0 ∨ k = 1 ∨ k = 2 := by omega
        subst haO haN
        rcases hk' with rfl | rfl | rfl
        · exact ⟨cell_of hb 0, cell_of hb 1⟩
        · exact ⟨cell_of hb 2, cell_of hb 3⟩
        · exact ⟨cell_of hb 4, cell_of hb 5⟩
      have HB0 : Hid (∀ k, 0 ≤ aO k ∧ aO k ≤ 10192 ∧ 0 ≤ aN k ∧ aN k ≤ 4000) := fun k => by
        subst haO haN
        show 0 ≤ (if k = 1 then O + a else O) ∧ (if k = 1 then O + a else O) ≤ 10192 ∧ 0 ≤ (if k = 0 then a else if k = 1 then b else a + b) ∧ (if k = 0 then a else if k = 1 then b else a + b) ≤ 4000
        split <;> split <;> (try split) <;> omega
      obtain ⟨RQ, hRQ⟩ : ∃ f : Nat → ByteArray, f = fun k => ⟨(bytesAt hvG (aO k).toNat (hvN S (aO k) (aN k))).toArray⟩ := ⟨_, rfl⟩
      have HRQ := Lib.hid hRQ
      have HJN : Hid (RQ 0 ++ RQ 1 = RQ 2 ∧ ((RQ 2).size : Int) = max (min (a + b) (S - O)) 0 ∧ (RQ 0).size ≤ 8192 ∧ (RQ 1).size ≤ 8192) := by
        subst hRQ haO haN
        refine ⟨?_, ?_, ?_, ?_⟩
        · have := hv_join S O a b hO0 ha0 hb0
          apply ByteArray.ext
          apply Array.ext'
          show ((ByteArray.mk (bytesAt hvG O.toNat (hvN S O a)).toArray) ++ (ByteArray.mk (bytesAt hvG (O + a).toNat (hvN S (O + a) b)).toArray)).data.toList = _
          rw [ByteArray.data_append]
          simpa using this
        · show (((bytesAt hvG O.toNat (hvN S O (a + b))).length : Nat) : Int) = _
          rw [bytesAt_length]; unfold hvN; omega
        · show (bytesAt hvG O.toNat (hvN S O a)).length ≤ _
          rw [bytesAt_length]; unfold hvN; omega
        · show (bytesAt hvG (O + a).toNat (hvN S (O + a) b)).length ≤ _
          rw [bytesAt_length]; unfold hvN; omega
      have T0 : Hid (T3 w6 A5 3 (fun j => if j < 0 then RQ j else ⟨#[]⟩)) := by
        refine ⟨_, (u6.block _ (lt_of_block HA.out) (fun h => h)).trans HA.out, by simp, fun j hj => ?_⟩
        have hj' : j = 0 ∨ j = 1 ∨ j = 2 := by omega
        rcases hj' with rfl | rfl | rfl <;> rfl
      have U60 := Lib.hid (HU5.out.trans u6)
      have U66 : Hid (Upd noBlock w6 w6) := Upd.refl _ _
      have HAL : Hid (wr.heap.size ≤ A5) := by show _ ≤ _; omega
      obtain ⟨wq, hwq⟩ : ∃ W : World, W = wr := ⟨_, rfl⟩
      rw [← hwq] at HRR HXX HUU HU5 U60 hA5 HAL
      clear hw6 h6 u6 x0 x1 hRQ haO haN HA HU5 hwq
      go_loopw [13] (fun i wr => ∃ k : Nat, k ≤ 3 ∧ i = .int .i64 (k : Int) ∧ Hid (T3 wr A5 3 (fun j => if j < k then RQ j else ⟨#[]⟩)) ∧ Hid (Upd (oneBlock A5) w6 wr)) (fun i _ => 3 - (intOf i).toNat)
      case atStart => exact ⟨0, Nat.zero_le _, rfl, T0, Upd.refl _ _⟩
      case round =>
        clear T0 U66
        obtain ⟨k, hk3, rfl, HR, HU⟩ := hrel
        have HUQ : Hid (Upd noBlock wq wr) := U60.out.step HU.out (fun i hi e => by have := HAL.out; unfold oneBlock at e; omega)
        by_cases h3 : k < 3
        · obtain ⟨n1, n2, n3, n4⟩ := HB0.out k
          obtain ⟨cO, cN⟩ := HCA.out wr HU.out k h3
          have hrd := hv_read S (aO k) (aN k) n1 hS1 (by omega)
          obtain ⟨o, ho⟩ : ∃ o, aO k = o := ⟨_, rfl⟩
          obtain ⟨n, hn⟩ : ∃ n, aN k = n := ⟨_, rfl⟩
          have hq : RQ k = ⟨(bytesAt hvG o.toNat (hvN S o n)).toArray⟩ := by
            have h9 := congrFun HRQ.out k
            simp only [ho, hn] at h9
            exact h9
          rw [ho, hn] at hrd
          rw [ho] at cO n1 n2
          rw [hn] at cN n3 n4
          obtain ⟨N, hN⟩ : ∃ N, hvN S o n = N := ⟨_, rfl⟩
          have hmx : max (min n (S - o)) 0 = (N : Int) := by rw [← hN]; unfold hvN; omega
          rw [hN] at hrd hq
          have hNb : o + (N : Int) ≤ 8192 ∨ N = 0 := by omega
          have hspf : ∃ F m : Nat, spanA o (N : Int) = ((F : Int), ((F + m : Nat) : Int)) ∧ F + m ≤ 140 ∧ F < 140 := by
            have hp := pcs_eq (o + (N : Int))
            unfold spanA
            split
            · rename_i h; unfold spanOk at h
              refine ⟨(o / 64).toNat, (pcs (o + (N : Int)) - o / 64).toNat, ?_, by omega, by omega⟩
              congr 1 <;> omega
            · exact ⟨0, 0, rfl, by omega, by omega⟩
          obtain ⟨F, m, hsp, hFm, hF⟩ := hspf
          rw [hsp] at hrd
          have e1 : ((F : Int)).toNat = F := by omega
          have e2 : (((F + m : Nat) : Int) - (F : Int)).toNat = m := by omega
          simp only [e1, e2] at hrd
          rw [← hrd] at hq
          have HSP : Hid (∀ w, Calls Tryd.prog 10 #[.int .i64 o, .int .i64 (N : Int)] w fun e w' => e = .returned (.tuple #[.int .i64 (F : Int), .int .i64 ((F + m : Nat) : Int)]) ∧ w = w') := fun w => by
            have h := Span_any o (N : Int) w
            rw [hsp] at h
            exact h.mono fun e w' h => ⟨h.1, h.2.symm⟩
          have HQK := Lib.hid hq
          have HRD : Hid (∀ v n0 c W, Strs W W.heap.size v n0 (strsAt hvB F m) → n0 ≤ c → Calls Tryd.prog 14 #[.int .i64 S, .int .i64 o, .int .i64 n, .slice v n0 c] W fun e w' => e = .returned (.string (RQ k)) ∧ Upd noBlock W w') := fun v n0 c W hs hc => by
            have h := Read_any S o n v n0 c W.heap.size _ W hs (Nat.le_refl _) hc hS1 (by omega) (by omega) (by omega)
            rwa [← hq] at h
          clear hrd hq hN hsp e1 e2 ho hn hNb
          have hm2 : m ≤ 140 := by omega
          obtain ⟨i0, hi0, hz0, hz1, hz2⟩ := strParts8
          have hsl : ∀ w' : World, (Instr.sliceAt 23 (.slice (some ⟨wc0.heap.size, 0, none⟩) 140 140) (some (.int .i64 (F : Int))) (some (.int .i64 ((F : Int) + (m : Int)))) none).run Tryd.prog w' = .ok (.slice (some ⟨wc0.heap.size, F, none⟩) m (140 - F)) w' := fun w' => by
            have := sliceS w' wc0.heap.size 140 F (F + m) (F : Int) ((F : Int) + (m : Int)) rfl (by omega) (by omega) hFm hF
            rwa [Nat.add_sub_cancel_left] at this
          go_wp2
          go_quiet (fail)
          go_upto_region 22 with (first | (go_at_call 10; (with_reducible refine (HSP.out _).mono ?_); rintro e w8 ⟨rfl, rfl⟩))
          obtain ⟨w7, hw7⟩ : ∃ W : World, W = wr.drewN nq := ⟨_, rfl⟩
          rw [← hw7]
          have u7 : Upd (oneBlock A5) w6 w7 := by rw [hw7]; exact HU.out.drewN _
          have q7 : Upd noBlock wq w7 := by rw [hw7]; exact HUQ.out.drewN _
          have t7 : T3 w7 A5 3 (fun j => if j < k then RQ j else ⟨#[]⟩) := by rw [hw7]; exact HR.out.grow ((Upd.refl _ _).drewN _)
          have R7 := Lib.hid (HRR.out.grow q7)
          have T7 := Lib.hid t7
          have U7 := Lib.hid u7
          have d0 : w7.cell? ⟨G5, k * 2, none⟩ = some (.int .i64 o) := by rw [hw7]; exact cO
          have d1 : w7.cell? ⟨G5, k * 2 + 1, none⟩ = some (.int .i64 n) := by rw [hw7]; exact cN
          have d2 : w7.drew.cell? ⟨G5, k * 2, none⟩ = some (.int .i64 o) := d0
          have d3 : w7.drew.cell? ⟨G5, k * 2 + 1, none⟩ = some (.int .i64 n) := d1
          have d4 : (w7.drew.alloc (.cells #[] 9)).cell? ⟨G5, k * 2, none⟩ = some (.int .i64 o) := upd_cell ((Upd.refl noBlock w7.drew).alloc _) d2
          have d5 : (w7.drew.alloc (.cells #[] 9)).cell? ⟨G5, k * 2 + 1, none⟩ = some (.int .i64 n) := upd_cell ((Upd.refl noBlock w7.drew).alloc _) d3
          have d8 : (w7.alloc (.cells #[] 9)).cell? ⟨G5, k * 2, none⟩ = some (.int .i64 o) := upd_cell ((Upd.refl noBlock w7).alloc _) d0
          have d9 : (w7.alloc (.cells #[] 9)).cell? ⟨G5, k * 2 + 1, none⟩ = some (.int .i64 n) := upd_cell ((Upd.refl noBlock w7).alloc _) d1
          clear cO cN hw7 u7 q7 t7 hmx
          have HKP : Hid (∀ W, Upd (oneBlock A5) w7 W → W.cell? ⟨G5, k * 2, none⟩ = some (.int .i64 o) ∧ W.cell? ⟨G5, k * 2 + 1, none⟩ = some (.int .i64 n)) := fun W hu => by
            have hne : ¬ oneBlock A5 G5 := fun e => by have := HZ5.out; unfold oneBlock at e; omega
            have hk := hu.block G5 (World.block_lt_of_cell? _ _ d0) hne
            exact ⟨(World.cell?_of_block hk).trans d0, (World.cell?_of_block hk).trans d1⟩
          have K0 : Hid (Upd (oneBlock A5) w7 w7) := Upd.refl _ _
          clear HRR HXX HUU HCA HB0 HRQ HJN HAL HSP HZ5 U60 HUQ HQK HR HU n1 n2 n3 n4 hS0 hS1 hO0 hO1 ha0 ha1 hb0 hb1 
          go_region_held_law (fun w' => w'.cell? ⟨G5, k * 2, none⟩ = some (.int .i64 o) ∧ w'.cell? ⟨G5, k * 2 + 1, none⟩ = some (.int .i64 n))
            (first | exact HKP.out _ K0.out.drew | exact HKP.out _ (K0.out.drew.alloc _) | exact HKP.out _ (K0.out.alloc _).drew | exact HKP.out _ K8.out | exact HKP.out _ K9.out | exact HKP.out _ (K9.out.setCell (p := ⟨A5, k, none⟩) (.inl rfl) _) | assumption | go_keep)
            (first
              | (go_simp; go_at_call 14; (with_reducible refine (HRD.out _ _ _ _ S8.out hc8).mono ?_); rintro e w9 ⟨rfl, u9⟩; have c9 := (T7.out.grow (U8.out.trans u9)).cell k h3; have f9 := (T7.out.grow (U8.out.trans u9)).free k; have U9 := Lib.hid (U8.out.trans u9); have K9 : Hid (Upd (oneBlock A5) w7 w9) := K8.out.step u9 (fun _ _ h => h.elim); clear u9)
              | (refine step_append_vals rfl (.tmp 132) (.tmp 136) 23 rfl w7.heap.size 9 i0 _ 16 Tryd.underlying23 hi0 hz0 hz1 hz2 rfl _ 0 [] rfl (OwnS.empty w7.drew 9) (wc0.heap.size + 1) (some ⟨wc0.heap.size, F, none⟩) m (140 - F) ((strsAt hvB F m).map Value.string) rfl ((R7.out.grow ((Upd.refl noBlock w7).drew.alloc _)).strs F m hFm (fun j _ => hvB_size j)).row (strs_one _) (by unfold maxLen; omega) (by omega) (by simp) ?_; intro v8 w8 hO hg; simp only [Nat.zero_add, List.nil_append] at hO; have u8 := upd_of_grown ((Upd.refl noBlock w7).drew.alloc (.cells #[] 9)) hg (fun k hk => .inr (own_base8 (OwnS.empty w7.drew 9) k hk).1); (obtain ⟨a8, c8, rfl, hc8, r8⟩ := own_row8 hO); have S8 := Lib.hid (Strs.mk r8 (fun s hs => by obtain ⟨j, _, rfl⟩ := List.mem_map.1 hs; exact hvB_size _)); have U8 := Lib.hid u8; have K8 : Hid (Upd (oneBlock A5) w7 w8) := K0.out.step u8 (fun _ _ h => h.elim); clear hO hg u8 r8))
          all_goals
            have TN : Hid (T3 (w9.setCell ⟨A5, k, none⟩ (.string (RQ k))) A5 3 (fun j => if j < k + 1 then RQ j else ⟨#[]⟩)) := ((T7.out.grow U9.out).set k (RQ k)).congr fun j _ => by
              by_cases e : j = k
              · subst e; rw [if_pos rfl, if_pos (by omega)]
              · rw [if_neg e]
                by_cases e2 : j < k
                · rw [if_pos e2, if_pos (by omega)]
                · rw [if_neg e2, if_neg (by omega)]
            have UN : Hid (Upd (oneBlock A5) w6 (w9.setCell ⟨A5, k, none⟩ (.string (RQ k)))) := (U7.out.step U9.out (fun _ _ h => h.elim)).setCell (p := ⟨A5, k, none⟩) (.inl rfl) _
            clear T7 U7 U8 U9 S8 HRD hsl c9 f9 d0 d1 K0 K8 K9 HKP
            go_wp2
            refine ⟨?_, ?measure⟩
            case measure => simp [intOf] <;> omega
            (repeat apply Exists.intro)
            refine ⟨?rel, rfl⟩
            case rel => exact ⟨k + 1, by omega, by go_num, TN, UN⟩
        · obtain rfl : k = 3 := by omega
          have c0 := HR.out.cell 0 (by decide)
          have c1 := HR.out.cell 1 (by decide)
          have c2 := HR.out.cell 2 (by decide)
          simp only [show (0 : Nat) < 3 from by decide, show (1 : Nat) < 3 from by decide, show (2 : Nat) < 3 from by decide, if_true] at c0 c1 c2
          obtain ⟨y0', y1'⟩ := HXX.out wr HUQ.out
          obtain ⟨hj, hz, hs0, hs1⟩ := HJN.out
          have hs2 : (RQ 0).size + (RQ 1).size ≤ 9223372036854775807 := by omega
          have HFN := Lib.hid (HUU.out.trans HUQ.out)
          generalize RQ 0 = q0 at *
          generalize RQ 1 = q1 at *
          generalize RQ 2 = q2 at *
          clear HR HU HRR HXX HCA HB0 HRQ HJN
          go_wp2
          go_ret
          exact ⟨rfl, HFN.out⟩
theorem opsHalves_walk (s0 o0 x0 y0 : Int) (w : World) (_ : (Lit.int .i64 s0).wf = true) (_ : (Lit.int .i64 o0).wf = true) (_ : (Lit.int .i64 x0).wf = true) (_ : (Lit.int .i64 y0).wf = true) (_ : True) :
    Calls Tryd.prog 6 #[.int .i64 s0, .int .i64 o0, .agg #[.int .i64 x0, .int .i64 y0]] w fun e w' => e = .returned (.bool true) ∧ Below w.heap.size w w' :=
  (opsHalves_upd s0 o0 x0 y0 w).mono fun _ _ ⟨h, hu⟩ => ⟨h, hu.below (fun _ _ h => h)⟩
end Go.Proofs.YtcfilepilgjlaaaDoor
