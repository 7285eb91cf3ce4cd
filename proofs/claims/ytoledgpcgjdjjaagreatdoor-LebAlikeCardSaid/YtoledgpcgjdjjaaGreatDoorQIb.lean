/- The table of steps: each byte times x^degree. -/
import Derived.Test.YtoledgpcgjdjjaaGreatDoorQIa
import Derived.Test.YtoledgpcgjdjjaaGreatDoorQSt
import Derived.Test.YtoledgpcgjdjjaaGreatDoorQGPa
import Derived.Laws.Tables
import Derived.Deep.RegionWith
namespace Go.Proofs.YtoledgpcgjdjjaaGreatDoor
open Go.RowKit

theorem ints_tl {w : World} {B n c : Nat} {A : Option Addr} {xs : List Int} (h : Ints w B A n xs) (hk : 1 ≤ n) (hc : n ≤ c) : Ints w B (if c = 1 then A else A.map (·.add 1)) (n - 1) (xs.drop 1) := by
  refine ⟨by rw [List.length_drop, h.1], fun h0 => ?_⟩
  obtain ⟨g, o, rfl, hg, hcl⟩ := h.2 (by omega)
  refine ⟨g, o + 1, by rw [if_neg (by omega)]; simp [Addr.add], hg, fun i hi => ?_⟩
  rw [Nat.add_assoc, hcl (1 + i) (by omega), List.getD_eq_getElem?_getD, List.getD_eq_getElem?_getD, List.getElem?_drop]
theorem upd_cellS {a b : World} (hu : Upd noBlock a b) {g j : Nat} {v : Value} (h : a.cell? ⟨g, j, none⟩ = some v) : b.cell? ⟨g, j, none⟩ = some v :=
  (World.cell?_of_block (hu.block g (World.block_lt_of_cell? a _ h) (fun h => h))).trans h
def tailR (d : Nat) (l : List Int) : Rm := l.foldl (fun r e => r.plus (Rm.bit (d - 1 - e.toNat))) Rm.zero
theorem tailR_snoc (d : Nat) (l : List Int) (e : Int) : tailR d (l ++ [e]) = (tailR d l).plus (Rm.bit (d - 1 - e.toNat)) := by
  unfold tailR; rw [List.foldl_append]; rfl
theorem Rm.zero_ok : Rm.zero.Ok := ⟨by show 0 < _; omega, by show 0 < _; omega⟩
theorem tailR_ok (d : Nat) (l : List Int) (hd : d ≤ 128) : (tailR d l).Ok := by
  have h : ∀ (l : List Int) (r : Rm), r.Ok → (l.foldl (fun r e => r.plus (Rm.bit (d - 1 - e.toNat))) r).Ok := by
    intro l
    induction l with
    | nil => intro r hr; exact hr
    | cons e l ih => intro r hr; exact ih _ (hr.plus (Rm.bit_ok _ (by omega)))
  exact h l _ Rm.zero_ok
def stp (T r : Rm) : Rm := if r.h / 9223372036854775808 = 1 then r.sh1.plus T else r.sh1
theorem stp_ok {T r : Rm} (hT : T.Ok) (hr : r.Ok) : (stp T r).Ok := by
  unfold stp; split
  · exact hr.sh1.plus hT
  · exact hr.sh1
def stps (T r : Rm) : Nat → Rm | 0 => r | j + 1 => stp T (stps T r j)
theorem stps_ok {T r : Rm} (hT : T.Ok) (hr : r.Ok) (j : Nat) : (stps T r j).Ok := by
  induction j with
  | zero => exact hr
  | succ j ih => exact stp_ok hT ih
def byteStep (T : Rm) (b : Nat) : Rm := stps T ⟨b * 72057594037927936, 0⟩ 8
theorem start_ok (b : Nat) (h : b < 256) : (⟨b * 72057594037927936, 0⟩ : Rm).Ok := ⟨by show b * _ < _; omega, by show 0 < _; omega⟩
theorem byteStep_ok {T : Rm} (hT : T.Ok) (b : Nat) (h : b < 256) : (byteStep T b).Ok := stps_ok hT (start_ok b h) 8
def tabA (f : Nat → Rm) : Array Value := Array.ofFn (n := 512) fun j => if j.val % 2 = 0 then .int .u64 ((f (j.val / 2)).h : Int) else .int .u64 ((f (j.val / 2)).l : Int)
theorem tabA_size (f : Nat → Rm) : (tabA f).size = 512 := by simp [tabA]
theorem tabA_h (f : Nat → Rm) (i : Nat) (h : i < 256) : (tabA f)[i * 2]? = some (.int .u64 ((f i).h : Int)) := by
  simp [tabA, show i * 2 < 512 by omega]
theorem tabA_l (f : Nat → Rm) (i : Nat) (h : i < 256) : (tabA f)[i * 2 + 1]? = some (.int .u64 ((f i).l : Int)) := by
  have h1 : (i * 2 + 1) % 2 = 1 := by omega
  have h2 : (i * 2 + 1) / 2 = i := by omega
  simp [tabA, show i * 2 + 1 < 512 by omega, h1, h2]
theorem tabA_one (f : Nat → Rm) : (tabA f).all (·.oneCell') = true := by
  rw [Array.all_eq_true_iff_forall_mem]
  intro v hv
  obtain ⟨i, rfl⟩ := Array.mem_ofFn.1 hv
  split <;> rfl
theorem tabA_info (f : Nat → Rm) : (Tryz.prog.info? 175).map (·.size) = some (tabA f).size := by rw [tabA_size]; kernel_rfl
def upF (f : Nat → Rm) (b : Nat) (i : Nat) : Rm := if i < b then f i else Rm.zero
theorem tab_zero : Tryz.zeroCells175 = tabA (fun _ => Rm.zero) := by kernel_rfl
theorem tabA_congr {f g : Nat → Rm} (h : ∀ i, i < 256 → f i = g i) : tabA f = tabA g := by
  apply Array.ext
  · simp [tabA]
  · intro j h1 h2
    have hj : j < 512 := by simpa [tabA] using h2
    simp [tabA, h (j / 2) (by omega)]
theorem tabA_set (f : Nat → Rm) (b : Nat) : ((tabA (upF f b)).setIfInBounds (b * 2) (.int .u64 ((f b).h : Int))).setIfInBounds (b * 2 + 1) (.int .u64 ((f b).l : Int)) = tabA (upF f (b + 1)) := by
  apply Array.ext
  · simp [tabA]
  · intro j h1 h2
    have hj : j < 512 := by simpa [tabA] using h2
    rw [Array.getElem_setIfInBounds (by simpa [tabA] using hj), Array.getElem_setIfInBounds (by simpa [tabA] using hj)]
    by_cases e1 : b * 2 + 1 = j
    · subst e1
      rw [if_pos rfl]
      simp [tabA, upF, show (b * 2 + 1) % 2 = 1 by omega, show (b * 2 + 1) / 2 = b by omega]
    · rw [if_neg e1]
      by_cases e2 : b * 2 = j
      · subst e2
        rw [if_pos rfl]
        simp [tabA, upF]
      · rw [if_neg e2]
        have : j / 2 < b + 1 ↔ j / 2 < b := by omega
        simp [tabA, upF, this]
def RB (w : World) (g : Nat) (r : Rm) : Prop := w.heap[g]? = some (.cells #[.int .u64 (r.h : Int), .int .u64 (r.l : Int)] 174 (0, 0))
theorem RB.upd {w w' : World} {g : Nat} {r : Rm} (h : RB w g r) {R : Nat → Prop} (hu : Upd R w w') (hR : ¬ R g) : RB w' g r := (hu.block g (lt_of_block h) hR).trans h
theorem RB.grow {w w' : World} {g : Nat} {r : Rm} (h : RB w g r) (hu : Upd noBlock w w') : RB w' g r := h.upd hu (fun h => h)
theorem RB.set {w : World} {g : Nat} {r : Rm} (h : RB w g r) (q : Rm) : RB ((w.setCell ⟨g, 0, none⟩ (.int .u64 (q.h : Int))).setCell ⟨g, 1, none⟩ (.int .u64 (q.l : Int))) g q := block_set (block_set h _) _
theorem RB.h {w : World} {g : Nat} {r : Rm} (h : RB w g r) : w.cell? ⟨g, 0, none⟩ = some (.int .u64 (r.h : Int)) := cell_of (w := w) (b := g) h 0
theorem RB.l {w : World} {g : Nat} {r : Rm} (h : RB w g r) : w.cell? ⟨g, 1, none⟩ = some (.int .u64 (r.l : Int)) := cell_of (w := w) (b := g) h 1
theorem RB.f {w : World} {g : Nat} {r : Rm} (h : RB w g r) (i : Nat) : w.frozen? ⟨g, i, none⟩ = false := free_of (w := w) (b := g) h i
set_option maxRecDepth 100000 in
set_option maxHeartbeats 3200000 in
theorem stepsBy_aux (T : Rm) (V : Array Value) (a : Option Addr) (n c B d : Nat) (l : List Int) (w : World) (hTT : Hid (tailR d l = T)) (hVV : Hid (tabA (byteStep T) = V)) (hr : Ints w B a n ((d : Int) :: l)) (hB : B ≤ w.heap.size) (hnc : n ≤ c) (hn : n ≤ 200) (hd1 : 1 ≤ d) (hd2 : d ≤ 120) (hl : ∀ k, k < l.length → ∃ e : Nat, l.getD k 0 = (e : Int) ∧ e < d) :
    Calls Tryz.prog 112 #[.slice a n c] w fun e w' => e = .returned (.agg V) ∧ Upd noBlock w w' := by
  have hlen := hr.1
  rw [List.length_cons] at hlen
  have hi0 : ∃ i0, Tryz.prog.info? 3 = some i0 ∧ i0.size = 1 := by
    have h : (Tryz.prog.info? 3).map (fun i => (i.zero, i.size, i.bytes)) = some (some (.int .i64 0), 1, 8) := by kernel_rfl
    obtain ⟨i0, h1, h2⟩ := Option.map_eq_some_iff.1 h
    simp only [Prod.mk.injEq] at h2
    exact ⟨i0, h1, h2.2.1⟩
  obtain ⟨i0, hi0, hz1⟩ := hi0
  have hsl : ∀ w : World, (Instr.sliceAt 200 (.slice a n c) (some (.int .i64 1)) none none).run Tryz.prog w = .ok (.slice (if c = 1 then a else a.map (·.add 1)) (n - 1) (c - 1)) w := fun w => run_slice_hi1 w 200 3 i0 Tryz.underlying200 hi0 hz1 a n c 1 (by omega)
  have HT := Lib.hid (ints_tl hr (by omega) hnc)
  have HR := Lib.hid hr
  have HLL := Lib.hid hl
  have HBB := Lib.hid hB
  obtain ⟨m, hm⟩ : ∃ m, n - 1 = m := ⟨_, rfl⟩
  rw [hm] at hsl HT
  have HM : Hid (l.length = m ∧ n = m + 1) := by show _ ∧ _; omega
  generalize (if c = 1 then a else a.map (·.add 1)) = A1 at *
  have hm64 : m ≤ 200 := by omega
  clear hr hl hB hm hlen
  go_enter Tryz.func112, Tryz.ntmps112
  go_wp2_with fail
  obtain ⟨wa, hwa⟩ : ∃ wa, wa = (w.alloc (.cells Tryz.zeroCells175 175)).alloc (.cells #[.int .u64 0, .int .u64 0] 174) := ⟨_, rfl⟩
  have U0 : Hid (Upd noBlock w wa) := by rw [hwa]; exact ((Upd.refl _ _).alloc _).alloc _
  have T0 : Hid (RB wa (w.heap.size + 1) (tailR d (l.take 0))) := by rw [hwa]; exact heap_new1 w _ _
  have Z0 : Hid (wa.heap[w.heap.size]? = some (.cells (tabA fun _ => Rm.zero) 175 (0, 0))) := by
    rw [hwa, ← tab_zero]; exact block_alloc (heap_alloc_new w _) _
  rw [← hwa]
  clear hwa hsl
  go_loopw [13] (fun i wr => ∃ k : Nat, k ≤ m ∧ i = .int .i64 (k : Int) ∧ Hid (RB wr (w.heap.size + 1) (tailR d (l.take k))) ∧ Hid (wr.heap[w.heap.size]? = some (.cells (tabA fun _ => Rm.zero) 175 (0, 0))) ∧ Hid (Upd noBlock w wr)) (fun i _ => m - (intOf i).toNat)
  case atStart => exact ⟨0, Nat.zero_le _, rfl, T0, Z0, U0⟩
  case round =>
    clear T0 Z0 U0
    obtain ⟨k, hk, rfl, HB, HZ, HU⟩ := hrel
    by_cases h0 : k < m
    · obtain ⟨e, he, hed⟩ := HLL.out k (by have := HM.out; omega)
      have i1 := HT.out.grow HU.out HBB.out
      have i0' := HR.out.grow HU.out HBB.out
      obtain ⟨g, off, hab, hg, hc⟩ := i1.cell (by omega)
      obtain ⟨g0, off0, hab0, hg0, hc0⟩ := i0'.cell (by have := HM.out; omega)
      subst hab hab0
      have HC1 : Hid (∀ W, Upd noBlock wr W → W.cell? ⟨g, off + k, none⟩ = some (.int .i64 (e : Int))) := fun W hW => by
        have h := hc k h0
        rw [List.drop_succ_cons, List.drop_zero, he] at h
        exact upd_cellS hW h
      have HC0 : Hid (∀ W, Upd noBlock wr W → W.cell? ⟨g0, off0, none⟩ = some (.int .i64 (d : Int))) := fun W hW => by
        have h := hc0 0 (by have := HM.out; omega)
        rw [Nat.add_zero] at h
        exact upd_cellS hW h
      obtain ⟨q, hq⟩ : ∃ q, tailR d (l.take k) = q := ⟨_, rfl⟩
      have hqok := tailR_ok d (l.take k) (by omega)
      rw [hq] at hqok HB
      have HN : Hid (tailR d (l.take (k + 1)) = q.plus (Rm.bit (d - 1 - e))) := by
        show _ = _
        have e1 : l.take (k + 1) = l.take k ++ [(e : Int)] := by
          rw [← he, List.getD_eq_getElem?_getD, List.getElem?_eq_getElem (by have := HM.out; omega)]
          simp
        rw [e1, tailR_snoc, hq, Int.toNat_natCast]
      have HRB : Hid (∀ W, Upd noBlock wr W → RB W (w.heap.size + 1) q) := fun W hW => HB.out.grow hW
      have k1 := HC1.out wr.drew (Upd.refl _ _).drew
      have k0 := HC0.out wr.drew (Upd.refl _ _).drew
      have k2 := (HRB.out wr.drew (Upd.refl _ _).drew).h
      have k3 := (HRB.out wr.drew (Upd.refl _ _).drew).l
      have k4 := (HRB.out wr.drew (Upd.refl _ _).drew).f 0
      have k5 := (HRB.out wr.drew (Upd.refl _ _).drew).f 1
      have c1 := HC1.out wr (Upd.refl _ _)
      have en : (d : Int) - 1 - (e : Int) = ((d - 1 - e : Nat) : Int) := by omega
      have en1 : IntKind.i64.wrap ((d : Int) - 1) = (d : Int) - 1 := by rw [IntKind.wrap_i64]; omega
      have en2 : IntKind.i64.wrap ((d - 1 - e : Nat) : Int) = ((d - 1 - e : Nat) : Int) := wrap_i64_nat _ (by omega)
      have hbn : d - 1 - e < 128 := by omega
      have hbok := Rm.bit_ok _ hbn
      generalize d - 1 - e = z at *
      have hzn : (0 : Int) < (n : Int) := by have := HM.out; omega
      have HBIT := Lib.hid (fun W => bitAt_any z W hbn)
      have HPL := Lib.hid (fun W => plus_any q (Rm.bit z) W hqok hbok)
      have HFIN : Hid (∀ W, Upd noBlock wr W → RB ((W.setCell ⟨w.heap.size + 1, 0, none⟩ (.int .u64 ((q.plus (Rm.bit z)).h : Int))).setCell ⟨w.heap.size + 1, 1, none⟩ (.int .u64 ((q.plus (Rm.bit z)).l : Int))) (w.heap.size + 1) (q.plus (Rm.bit z)) ∧ ((W.setCell ⟨w.heap.size + 1, 0, none⟩ (.int .u64 ((q.plus (Rm.bit z)).h : Int))).setCell ⟨w.heap.size + 1, 1, none⟩ (.int .u64 ((q.plus (Rm.bit z)).l : Int))).heap[w.heap.size]? = some (.cells (tabA fun _ => Rm.zero) 175 (0, 0)) ∧ Upd noBlock w ((W.setCell ⟨w.heap.size + 1, 0, none⟩ (.int .u64 ((q.plus (Rm.bit z)).h : Int))).setCell ⟨w.heap.size + 1, 1, none⟩ (.int .u64 ((q.plus (Rm.bit z)).l : Int)))) := fun W hW =>
        ⟨(HRB.out W hW).set _, block_set_other (block_set_other ((hW.block _ (lt_of_block HZ.out) (fun h => h)).trans HZ.out) (by show ¬ w.heap.size = w.heap.size + 1; omega) _) (by show ¬ w.heap.size = w.heap.size + 1; omega) _,
          ((HU.out.trans hW).setCell (.inr (Nat.le_succ _)) _).setCell (.inr (Nat.le_succ _)) _⟩
      clear hc hc0 he hq i1 i0' HB HZ
      unfold Rm.agg at HBIT HPL
      go_wp2_with fail
      go_region_with (first
        | (go_at_call 149; refine (HBIT.out _).mono ?_; rintro e w2 ⟨rfl, u2⟩; have v2 := ((Upd.refl noBlock wr).drew).trans u2; have k0' := HC0.out w2 v2; have k2' := (HRB.out w2 v2).h; have k3' := (HRB.out w2 v2).l)
        | (go_at_call 148; refine (HPL.out _).mono ?_; rintro e w3 ⟨rfl, u3⟩; have v3 := v2.trans u3; have k6 := (HRB.out w3 v3).h; have k7 := (HRB.out w3 v3).l; have k8 := (HRB.out w3 v3).f 0; have k9 := (HRB.out w3 v3).f 1))
      all_goals
        have hfin := HFIN.out w3 v3
        have F1 := Lib.hid hfin.1
        have F2 := Lib.hid hfin.2.1
        have F3 := Lib.hid hfin.2.2
        clear hfin
        go_wp2
        go_roundw
        case rel => exact ⟨k + 1, by omega, by go_num, by rw [HN.out]; exact F1, F2, F3⟩
        case measure => simp [intOf]; omega
    · obtain rfl : k = m := by omega
      have e : l.take k = l := List.take_of_length_le (by have := HM.out; omega)
      rw [e, hTT.out] at HB
      have hTok := tailR_ok d l (by omega)
      rw [hTT.out] at hTok
      have HTO := Lib.hid hTok
      clear hTok e
      go_wp2_with fail
      obtain ⟨wm, rfl⟩ : ∃ wm : World, wm = wr := ⟨_, rfl⟩
      obtain ⟨wz, hwz⟩ : ∃ wz, wz = wm.alloc (.cells Tryz.zeroCells175 175) := ⟨_, rfl⟩
      have ZU : Hid (Upd noBlock wm wz) := by rw [hwz]; exact (Upd.refl _ _).alloc _
      have S0 : Hid (wz.heap[wm.heap.size]? = some (.cells (tabA (upF (byteStep T) 0)) 175 (0, 0))) := by
        rw [hwz, ← show tabA (fun _ => Rm.zero) = tabA (upF (byteStep T) 0) from tabA_congr fun i _ => (if_neg (Nat.not_lt_zero i)).symm, ← tab_zero]; exact heap_alloc_new wm _
      have BB : Hid (RB wz (w.heap.size + 1) T) := HB.out.grow ZU.out
      have ZZ : Hid (wz.heap[w.heap.size]? = some (.cells (tabA fun _ => Rm.zero) 175 (0, 0))) := (ZU.out.block _ (lt_of_block HZ.out) (fun h => h)).trans HZ.out
      have UU : Hid (Upd noBlock w wz) := HU.out.trans ZU.out
      have SZ : Hid (w.heap.size + 1 < wm.heap.size) := lt_of_block HB.out
      rw [← hwz]
      clear hwz HB HZ HU ZU
      go_loopw [27] (fun i wr => ∃ b : Nat, b ≤ 256 ∧ i = .int .i64 (b : Int) ∧ Hid (wr.heap[wm.heap.size]? = some (.cells (tabA (upF (byteStep T) b)) 175 (0, 0))) ∧ Hid (RB wr (w.heap.size + 1) T) ∧ Hid (wr.heap[w.heap.size]? = some (.cells (tabA fun _ => Rm.zero) 175 (0, 0))) ∧ Hid (Upd noBlock w wr)) (fun i _ => 256 - (intOf i).toNat)
      case atStart => exact ⟨0, Nat.zero_le _, rfl, S0, BB, ZZ, UU⟩
      case round =>
        clear S0 BB ZZ UU
        obtain ⟨b, hb, rfl, HS, HB, HZ, HU⟩ := hrel
        by_cases b0 : b < 256
        · have hso := start_ok b b0
          have hcast : ((b * 72057594037927936 : Nat) : Int) = (b : Int) * 72057594037927936 := by omega
          have R0 : Hid (RB (wr.alloc (.cells #[.int .u64 ((b : Int) * 72057594037927936), .int .u64 0] 174)) wr.heap.size (stps T ⟨b * 72057594037927936, 0⟩ 0)) := by
            show _ = _
            rw [heap_alloc_new]
            show _ = some (Obj.cells #[.int .u64 ((b * 72057594037927936 : Nat) : Int), .int .u64 ((0 : Nat) : Int)] _ _)
            rw [hcast]; rfl
          have V0 : Hid (Upd noBlock wr (wr.alloc (.cells #[.int .u64 ((b : Int) * 72057594037927936), .int .u64 0] 174))) := (Upd.refl _ _).alloc _
          have nb1 : w.heap.size + 1 < wr.heap.size := lt_of_block HB.out
          have nb2 : wm.heap.size < wr.heap.size := lt_of_block HS.out
          have HSO := Lib.hid hso
          clear hso hcast
          go_wp2_with fail
          rw [show decide ((b : Int) < 256) = true from decide_eq_true (by omega)]
          obtain ⟨wo, rfl⟩ : ∃ wo : World, wo = wr := ⟨_, rfl⟩
          obtain ⟨r0, hr0⟩ : ∃ r0 : Rm, r0 = ⟨b * 72057594037927936, 0⟩ := ⟨_, rfl⟩
          rw [← hr0] at R0 HSO
          have HR0 := Lib.hid hr0
          clear hr0
          go_loopw [9, 34] (fun _ i wr => ∃ j : Nat, j ≤ 8 ∧ i = .int .i64 (j : Int) ∧ Hid (RB wr wo.heap.size (stps T r0 j)) ∧ Hid (Upd noBlock wo wr)) (fun _ i _ => 8 - (intOf i).toNat)
          case atStart => exact ⟨0, Nat.zero_le _, rfl, R0, V0⟩
          case round =>
            clear R0 V0
            obtain ⟨j, hj, rfl, HR, HV⟩ := hrel
            by_cases j0 : j < 8
            · have hok := stps_ok HTO.out HSO.out j
              have hnext : stps T r0 (j + 1) = stp T (stps T r0 j) := rfl
              obtain ⟨r, hr⟩ : ∃ r, stps T r0 j = r := ⟨_, rfl⟩
              rw [hr] at hok hnext HR
              have HNX := Lib.hid hnext
              have k0 := HR.out.h
              have k1 := HR.out.l
              have HSH := Lib.hid (fun W => shifted1 r W hok)
              have hs1 := hok.sh1
              have HPL := Lib.hid (fun W => plus_any r.sh1 T W hs1 HTO.out)
              unfold Rm.agg at HSH HPL
              have nb3 : ¬ w.heap.size + 1 = wo.heap.size := by omega
              have nb4 : ¬ wo.heap.size = w.heap.size + 1 := by omega
              by_cases hbit : r.h / 9223372036854775808 = 1
              · have ht : ((r.h : Int) / 9223372036854775808 == 1) = true := beq_iff_eq.2 (by omega)
                have HST : Hid (stp T r = r.sh1.plus T) := if_pos hbit
                clear hr hnext hbit
                go_wp2_with (first
                  | (go_at_call 150; refine (HSH.out _).mono ?_; rintro e w2 ⟨rfl, u2⟩; have r2 := HR.out.grow u2; have q0 := r2.h; have q1 := r2.l; have q2 := r2.f 0; have q3 := r2.f 1; have V2 := Lib.hid (HV.out.trans u2); have B2 := HB.out.grow (HV.out.trans u2); have t0 := B2.h; have t1 := B2.l; have R3 := Lib.hid (r2.set r.sh1); have V3 := Lib.hid (((HV.out.trans u2).setCell (p := ⟨wo.heap.size, 0, none⟩) (.inr (Nat.le_refl _)) (.int .u64 (r.sh1.h : Int))).setCell (p := ⟨wo.heap.size, 1, none⟩) (.inr (Nat.le_refl _)) (.int .u64 (r.sh1.l : Int))); clear u2 r2 B2)
                  | (go_at_call 148; refine (HPL.out _).mono ?_; rintro e w3 ⟨rfl, u3⟩; have r3 := R3.out.grow u3; have p0 := r3.h; have p1 := r3.l; have p2 := r3.f 0; have p3 := r3.f 1; have R4 := Lib.hid (r3.set (r.sh1.plus T)); have V4 := Lib.hid (((V3.out.trans u3).setCell (p := ⟨wo.heap.size, 0, none⟩) (.inr (Nat.le_refl _)) (.int .u64 ((r.sh1.plus T).h : Int))).setCell (p := ⟨wo.heap.size, 1, none⟩) (.inr (Nat.le_refl _)) (.int .u64 ((r.sh1.plus T).l : Int))); clear u3 r3))
                go_roundw
                case rel => exact ⟨j + 1, by omega, by go_num, by rw [HNX.out, HST.out]; exact R4, V4⟩
                case measure => simp [intOf]; omega
              · have ht : ((r.h : Int) / 9223372036854775808 == 1) = false := beq_eq_false_iff_ne.2 (by omega)
                have HST : Hid (stp T r = r.sh1) := if_neg hbit
                clear hr hnext hbit
                go_wp2_with (first
                  | (go_at_call 150; refine (HSH.out _).mono ?_; rintro e w2 ⟨rfl, u2⟩; have r2 := HR.out.grow u2; have q0 := r2.h; have q1 := r2.l; have q2 := r2.f 0; have q3 := r2.f 1; have R3 := Lib.hid (r2.set r.sh1); have V3 := Lib.hid (((HV.out.trans u2).setCell (p := ⟨wo.heap.size, 0, none⟩) (.inr (Nat.le_refl _)) (.int .u64 (r.sh1.h : Int))).setCell (p := ⟨wo.heap.size, 1, none⟩) (.inr (Nat.le_refl _)) (.int .u64 (r.sh1.l : Int))); clear u2 r2))
                go_roundw
                case rel => exact ⟨j + 1, by omega, by go_num, by rw [HNX.out, HST.out]; exact R3, V3⟩
                case measure => simp [intOf]; omega
            · obtain rfl : j = 8 := by omega
              have k0 := HR.out.h
              have k1 := HR.out.l
              have s2 := (HV.out.block _ (lt_of_block HS.out) (fun h => h)).trans HS.out
              have z0 := cell_of s2 (b * 2)
              have z1 := cell_of s2 (b * 2 + 1)
              rw [tabA_h _ b b0] at z0
              rw [tabA_l _ b b0] at z1
              have z2 := free_of s2 (b * 2)
              have z3 := free_of s2 (b * 2 + 1)
              have HBY : Hid (stps T r0 8 = byteStep T b) := by show _ = _; rw [HR0.out]; rfl
              rw [HBY.out] at k0 k1
              have sn := block_set (block_set s2 (i := b * 2) (.int .u64 ((byteStep T b).h : Int))) (i := b * 2 + 1) (.int .u64 ((byteStep T b).l : Int))
              rw [tabA_set] at sn
              have HSN := Lib.hid sn
              have hne : ¬ w.heap.size + 1 = wm.heap.size := by have := SZ.out; omega
              have hne0 : ¬ w.heap.size = wm.heap.size := by have := SZ.out; omega
              have ub : Upd (oneBlock wm.heap.size) wr ((wr.setCell ⟨wm.heap.size, b * 2, none⟩ (.int .u64 ((byteStep T b).h : Int))).setCell ⟨wm.heap.size, b * 2 + 1, none⟩ (.int .u64 ((byteStep T b).l : Int))) := ((Upd.refl (oneBlock wm.heap.size) wr).setCell (p := ⟨wm.heap.size, b * 2, none⟩) (.inl rfl) _).setCell (p := ⟨wm.heap.size, b * 2 + 1, none⟩) (.inl rfl) _
              have HBN := Lib.hid ((HB.out.grow HV.out).upd ub hne)
              have hzb := lt_of_block HZ.out
              have hsz := HV.out.size
              have HZN : Hid (((wr.setCell ⟨wm.heap.size, b * 2, none⟩ (.int .u64 ((byteStep T b).h : Int))).setCell ⟨wm.heap.size, b * 2 + 1, none⟩ (.int .u64 ((byteStep T b).l : Int))).heap[w.heap.size]? = some (.cells (tabA fun _ => Rm.zero) 175 (0, 0))) := (ub.block _ (by omega) hne0).trans ((HV.out.block _ hzb (fun h => h)).trans HZ.out)
              have HUN : Hid (Upd noBlock w ((wr.setCell ⟨wm.heap.size, b * 2, none⟩ (.int .u64 ((byteStep T b).h : Int))).setCell ⟨wm.heap.size, b * 2 + 1, none⟩ (.int .u64 ((byteStep T b).l : Int)))) := (HU.out.trans HV.out).step ub (fun i hi h => by have := SZ.out; unfold oneBlock at h; omega)
              clear s2 sn ub hne hne0
              go_wp2_with fail
              go_roundw
              case rel => exact ⟨b + 1, by omega, by go_num, HSN, HBN, HZN, HUN⟩
              case measure => simp [intOf]; omega
        · obtain rfl : b = 256 := by omega
          have HSF : Hid (wr.heap[wm.heap.size]? = some (.cells (tabA (byteStep T)) 175 (0, 0))) := by
            have h := HS.out
            rw [show tabA (upF (byteStep T) 256) = tabA (byteStep T) from tabA_congr fun i hi => if_pos hi] at h
            exact h
          have hone := tabA_one (byteStep T)
          have hsiz : (tabA (byteStep T)).size = 512 := tabA_size _
          have hinf := tabA_info (byteStep T)
          rw [hVV.out] at hone hsiz hinf HSF
          go_wp2_with (first
            | (refine wpList_load_row rfl 175 (.tmp 6) rfl wm.heap.size rfl _ V _ _ HSF.out Tryz.underlying175 rfl hinf ?_)
            | (refine wpList_store_row rfl 175 (.tmp 2) (.tmp 51) rfl w.heap.size V rfl rfl 175 (tabA fun _ => Rm.zero) HZ.out hinf (by rw [tabA_size, hsiz]) hone ?_))
          refine bodyPost_ret (v := .agg V) (results_cell_row (g := w.heap.size) Tryz.results112 _ _ 175 V (0, 0) _ rfl (setRow_heap _ _ _ _ _ _ HZ.out) Tryz.underlying175 rfl hinf) rfl ⟨rfl, HU.out.setRow (.inr (Nat.le_refl _)) _⟩
end Go.Proofs.YtoledgpcgjdjjaaGreatDoor
