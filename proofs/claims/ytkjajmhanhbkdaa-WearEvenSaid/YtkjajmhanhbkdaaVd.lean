/- WearEven. -/
import Derived.Test.YtkjajmhanhbkdaaVc
import Derived.Deep.CutRange
namespace Go.Proofs.Ytkjajmhanhbkdaa
open Go.RowKit

theorem blkInfo8 : (Try.prog.info? 55).map (fun i => (i.zero, i.size, i.bytes)) = some (some (.agg #[.int .i64 0, .int .i64 0, .bool false, .bool false]), 4, 24) := by kernel_rfl
theorem run_make_wide8 {P : Program} (t e : TypeId) (z : Value) (size bytes : Nat) (ht : P.underlying t = some (.slice e)) (hinfo : (P.info? e).map (fun i => (i.zero, i.size, i.bytes)) = some (some z, size, bytes)) (n : Nat) (hbytes : bytes * n ≤ 281474976710656) (h63 : n ≤ 9223372036854775807) (w : World) :
    (Instr.makeSlice t (.int .i64 (n : Int)) (.int .i64 (n : Int))).run P w = .ok (.slice (some ⟨w.heap.size, 0, none⟩) n n) (w.alloc (.cells (madeCells z.cells (n * size)) e)) := by
  obtain ⟨i, hi, hzz⟩ := Option.map_eq_some_iff.1 hinfo
  simp only [Prod.mk.injEq] at hzz
  obtain ⟨hz, hs, hb⟩ := hzz
  have hb' : (i.bytes : Int) * (n : Int) ≤ 281474976710656 := by
    rw [hb]
    have h : ((bytes * n : Nat) : Int) ≤ 281474976710656 := by omega
    rwa [Int.natCast_mul] at h
  have := run_make (P := P) w t e i z ht hi hz .i64 .i64 (n : Int) (n : Int) (by omega) (Int.le_refl _) hb' (by omega)
  rw [hs, Int.toNat_natCast] at this
  exact this
/-- the cells of the blocks -/
def evc (E : Nat → Nat) (U : Nat → Bool) (j : Nat) : Value := if j % 4 = 0 then .int .i64 ((E (j / 4) : Nat) : Int) else if j % 4 = 1 then .int .i64 0 else if j % 4 = 2 then .bool (U (j / 4)) else .bool false
def EvR (w : World) (g n : Nat) (E : Nat → Nat) (U : Nat → Bool) : Prop := w.rowIs g 55 (n * 4) (evc E U)
theorem EvR.made (w : World) (n : Nat) : EvR (w.alloc (.cells (madeCells (Value.agg #[.int .i64 0, .int .i64 0, .bool false, .bool false]).cells (n * 4)) 55)) w.heap.size n (fun _ => 0) (fun _ => false) := by
  have hc : (Value.agg #[.int .i64 0, .int .i64 0, .bool false, .bool false]).cells = #[.int .i64 0, .int .i64 0, .bool false, .bool false] := by rfl
  rw [hc]
  refine ⟨_, heap_alloc_new _ _, size_madeCells _ _, fun i hi => ?_⟩
  have h4 : i % 4 = 0 ∨ i % 4 = 1 ∨ i % 4 = 2 ∨ i % 4 = 3 := by omega
  rcases h4 with e | e | e | e <;> simp [madeCells, evc, e, show i < n * 4 by omega]
theorem EvR.upd {w w' : World} {g n : Nat} {E : Nat → Nat} {U : Nat → Bool} (h : EvR w g n E U) {R : Nat → Prop} (hu : Upd R w w') (hR : ¬ R g) : EvR w' g n E U := by
  obtain ⟨c, h1, r⟩ := h
  exact ⟨c, (hu.block g (lt_of_block h1) hR).trans h1, r⟩
theorem EvR.grow {w w' : World} {g n : Nat} {E : Nat → Nat} {U : Nat → Bool} (h : EvR w g n E U) (hu : Upd noBlock w w') : EvR w' g n E U := h.upd hu (fun h => h)
theorem EvR.er {w : World} {g n : Nat} {E : Nat → Nat} {U : Nat → Bool} (h : EvR w g n E U) (k : Nat) (hk : k < n) : w.cell? ⟨g, k * 4, none⟩ = some (.int .i64 ((E k : Nat) : Int)) := by
  rw [h.cell (show k * 4 < n * 4 by omega)]
  unfold evc
  rw [if_pos (by omega), show k * 4 / 4 = k by omega]
theorem EvR.us {w : World} {g n : Nat} {E : Nat → Nat} {U : Nat → Bool} (h : EvR w g n E U) (k : Nat) (hk : k < n) : w.cell? ⟨g, k * 4 + 2, none⟩ = some (.bool (U k)) := by
  rw [h.cell (show k * 4 + 2 < n * 4 by omega)]
  unfold evc
  rw [if_neg (by omega), if_neg (by omega), if_pos (by omega), show (k * 4 + 2) / 4 = k by omega]
theorem EvR.blks {w : World} {g n : Nat} {E : Nat → Nat} {U : Nat → Bool} (h : EvR w g n E U) : Blks w (g + 1) (some ⟨g, 0, none⟩) n (evF E U) := fun h0 => by
  refine ⟨g, 0, rfl, by omega, fun i hi => ?_⟩
  rw [Nat.zero_add]
  refine ⟨h.er i hi, ?_, h.us i hi, ?_⟩
  · rw [h.cell (show i * 4 + 1 < n * 4 by omega)]
    unfold evc
    rw [if_neg (by omega), if_pos (by omega)]; rfl
  · rw [h.cell (show i * 4 + 3 < n * 4 by omega)]
    unfold evc
    rw [if_neg (by omega), if_neg (by omega), if_neg (by omega)]; rfl
theorem EvR.setU {w : World} {g n : Nat} {E : Nat → Nat} {U : Nat → Bool} (h : EvR w g n E U) (k : Nat) (b : Bool) : EvR (w.setCell ⟨g, k * 4 + 2, none⟩ (.bool b)) g n E (upU U k b) := by
  refine World.rowIs.congr (World.rowIs.set h _ _) fun j _ => ?_
  by_cases e : j = k * 4 + 2
  · subst e
    rw [if_pos rfl]
    unfold evc
    rw [if_neg (by omega), if_neg (by omega), if_pos (by omega), show (k * 4 + 2) / 4 = k by omega]
    simp [upU]
  · rw [if_neg e]
    unfold evc
    split
    · rfl
    · split
      · rfl
      · split
        · rw [show upU U k b (j / 4) = U (j / 4) from if_neg (by omega)]
        · rfl
theorem EvR.setE {w : World} {g n : Nat} {E : Nat → Nat} {U : Nat → Bool} (h : EvR w g n E U) (k : Nat) : EvR (w.setCell ⟨g, k * 4, none⟩ (.int .i64 ((E k : Nat) + 1 : Int))) g n (upE E k) U := by
  refine World.rowIs.congr (World.rowIs.set h _ _) fun j _ => ?_
  by_cases e : j = k * 4
  · subst e
    rw [if_pos rfl]
    unfold evc
    rw [if_pos (by omega), show k * 4 / 4 = k by omega]
    simp [upE]
  · rw [if_neg e]
    unfold evc
    split
    · rw [show upE E k (j / 4) = E (j / 4) from if_neg (by omega)]
    · rfl
theorem alloc_cell2 (w : World) (a b : Addr) (x y v : Value) (t : TypeId) : (((w.setCell a x).setCell b y).alloc (.cells #[v] t)).cell? ⟨w.heap.size, 0, none⟩ = some v := by
  have h := heap_alloc_new ((w.setCell a x).setCell b y) (.cells #[v] t)
  have e : ((w.setCell a x).setCell b y).heap.size = w.heap.size := by simp [World.setCell]
  rw [e] at h
  rw [cell_of h]; rfl
/-- the arguments are out of bounds -/
def badArgs (b u s : Int) : Bool := decide (b < 2) || decide (40 < b) || decide (u < 0) || decide (b ≤ u) || decide (s < 0) || decide (500 < s)
set_option maxRecDepth 100000 in
set_option maxHeartbeats 6400000 in
theorem even_any (b u s : Int) (w : World) :
    Calls Try.prog 8 #[.int .i64 b, .int .i64 u, .int .i64 s] w fun e w' => e = .returned (.bool true) ∧ Upd noBlock w w' := by
  obtain ⟨i0, hi0, hz0, hz1, hz2⟩ := intParts7
  go_enter Try.func8, Try.ntmps8
  go_upto_region 3 with (go_at_call 20; refine (speaks8_any _).mono ?_; rintro e w1 ⟨rfl, u1⟩; have U1 := Lib.hid u1; clear u1)
  go_cut [38] from 16 to 120 (fun c wx => c = .bool (badArgs b u s) ∧ wx = w1)
  case first =>
    by_cases h1 : b < 2
    · have hb : badArgs b u s = true := by unfold badArgs; rw [decide_eq_true h1]; rfl
      go_wp2_with fail
      go_meet
      exact ⟨by rw [hb], rfl⟩
    · by_cases h2 : 40 < b
      · have hb : badArgs b u s = true := by unfold badArgs; rw [decide_eq_true h2]; simp
        go_wp2_with fail
        go_meet
        exact ⟨by rw [hb], rfl⟩
      · by_cases h3 : u < 0
        · have hb : badArgs b u s = true := by unfold badArgs; rw [decide_eq_true h3]; simp
          go_wp2_with fail
          go_meet
          exact ⟨by rw [hb], rfl⟩
        · by_cases h4 : b ≤ u
          · have hb : badArgs b u s = true := by unfold badArgs; rw [decide_eq_true h4]; simp
            go_wp2_with fail
            go_meet
            exact ⟨by rw [hb], rfl⟩
          · by_cases h5 : s < 0
            · have hb : badArgs b u s = true := by unfold badArgs; rw [decide_eq_true h5]; simp
              go_wp2_with fail
              go_meet
              exact ⟨by rw [hb], rfl⟩
            · have hb : badArgs b u s = decide (500 < s) := by unfold badArgs; rw [decide_eq_false h1, decide_eq_false h2, decide_eq_false h3, decide_eq_false h4, decide_eq_false h5]; simp
              go_wp2_with fail
              go_meet
              exact ⟨by rw [hb], rfl⟩
  case rest =>
    obtain ⟨rfl, hw1⟩ := hcut
    subst hw1
    go_upto_if 38 with fail
    go_cut [0, 1, 2] from 16 to 120 (fun s0 s1 s2 wx => (∃ n q st : Nat, s0 = .int .i64 (n : Int) ∧ s1 = .int .i64 (q : Int) ∧ s2 = .int .i64 (st : Int) ∧ 2 ≤ n ∧ n ≤ 40 ∧ q < n ∧ st ≤ 500) ∧ wx = wc)
    case first =>
      cases hb : badArgs b u s
      · unfold badArgs at hb
        simp only [Bool.or_eq_false_iff, decide_eq_false_iff_not] at hb
        have hq : ∃ n q st : Nat, b = (n : Int) ∧ u = (q : Int) ∧ s = (st : Int) ∧ 2 ≤ n ∧ n ≤ 40 ∧ q < n ∧ st ≤ 500 := ⟨b.toNat, u.toNat, s.toNat, by omega⟩
        have HQ := Lib.hid hq
        clear hq hb
        go_wp2_with fail
        go_meet
        obtain ⟨n, q, st, e1, e2, e3, r⟩ := HQ.out
        exact ⟨⟨n, q, st, by rw [e1], by rw [e2], by rw [e3], r⟩, rfl⟩
      · go_wp2_with fail
        go_meet
        exact ⟨⟨5, 0, 20, rfl, rfl, rfl, by omega⟩, rfl⟩
    case rest =>
      obtain ⟨⟨n, q, st, rfl, rfl, rfl, h2, h40, hq, hst⟩, rfl⟩ := hcut
      have hmk := run_make_wide8 (P := Try.prog) _ _ _ 4 24 Try.underlying43 blkInfo8 n (by omega) (by omega)
      obtain ⟨O, HO, hm⟩ : ∃ O : Obj, Hid (O = .cells (madeCells (Value.agg #[.int .i64 0, .int .i64 0, .bool false, .bool false]).cells (n * 4)) 55) ∧ ∀ w : World, (Instr.makeSlice 43 (.int .i64 (n : Int)) (.int .i64 (n : Int))).run Try.prog w = .ok (.slice (some ⟨w.heap.size, 0, none⟩) n n) (w.alloc O) := ⟨_, rfl, hmk⟩
      clear hmk
      obtain ⟨wb, rfl⟩ : ∃ wb : World, wb = wc := ⟨_, rfl⟩
      have R0 : Hid (EvR (wb.alloc O) wb.heap.size n (fun _ => 0) (fun _ => false)) := by rw [HO.out]; exact EvR.made wb n
      have V0 : Hid (Upd noBlock wb (wb.alloc O)) := (Upd.refl _ _).alloc _
      obtain ⟨W0, hW0⟩ : ∃ W0, W0 = wb.alloc O := ⟨_, rfl⟩
      have SZ : Hid (wb.heap.size < W0.heap.size) := by rw [hW0]; show _ < _; simp
      rw [← hW0] at R0 V0
      have HW0 := Lib.hid hW0
      clear hW0 HO
      go_wp2_with fail
      rw [← HW0.out]
      clear hm HW0
      go_loopw [8, 9] (fun v i wr => ∃ (k : Nat) (E : Nat → Nat) (U : Nat → Bool) (L : List Nat), k ≤ st ∧ i = .int .i64 (k : Int) ∧ Hid (Ev n q k E U L) ∧ Hid (Tl wr (wb.heap.size + 1) v (L.map Int.ofNat)) ∧ Hid (EvR wr wb.heap.size n E U) ∧ Hid (Upd noBlock wb wr)) (fun _ i _ => st - (intOf i).toNat)
      case atStart => exact ⟨0, _, _, [], Nat.zero_le _, rfl, Ev.start n q, Tl.nil _ _, R0, V0⟩
      case round =>
        clear R0 V0
        obtain ⟨k, E, U, L, hk, rfl, HE, HT, HR, HU⟩ := hrel
        by_cases k0 : k < st
        · have hpick := picked_any Bk.spare (evF E U) n
          have hfree := HE.out.free hq
          have hpk : ∃ p : Nat, p < n ∧ leastL (evF E U) (chosenL Bk.spare (evF E U) n) = (p : Int) ∧ U p = false ∧ ∀ j, j < n → U j = false → E p ≤ E j := by
            rcases hpick with ⟨_, h2⟩ | ⟨p, h1, h2, h3, h4, _⟩
            · obtain ⟨j, hj, hf⟩ := hfree
              have := h2 j hj
              simp [Bk.spare, evF, hf] at this
            · refine ⟨p, h1, h2, by simpa [Bk.spare, evF] using h3, fun j hj hf => ?_⟩
              have := h4 j hj (by simp [Bk.spare, evF, hf])
              simpa [evF] using this
          obtain ⟨p, hpn, hpl, hpf, hpm⟩ := hpk
          have HM := Lib.hid (HE.out.mid p hpn hpf hpm)
          have HPL := Lib.hid hpl
          have HPF := Lib.hid hpf
          have hEp := HE.out.max p
          have HPK := Lib.hid (pick_any (some ⟨wb.heap.size, 0, none⟩) n n (wb.heap.size + 1) (evF E U) wr HR.out.blks (by have := HU.out.size; have := lt_of_block HR.out.choose_spec.1; omega) (by omega))
          clear hpick hfree hpl hpf hpm
          have hnp : decide (n ≤ p) = false := decide_eq_false (by omega)
          have HLL := Lib.hid HE.out.len
          obtain ⟨ll, hll⟩ : ∃ ll, L.length = ll := ⟨_, rfl⟩
          have HLN := Lib.hid hll
          have HXL : Hid ((L.map Int.ofNat).length = ll) := by show _ = _; rw [List.length_map, hll]
          clear hll
          go_upto_if 81 with (first
            | (go_at_call 24; refine HPK.out.mono ?_; rw [HPL.out]; rintro e w2 ⟨rfl, u2⟩; have U2 := Lib.hid u2; have R2 := Lib.hid (HR.out.grow u2); have cU := (HR.out.grow u2).us p hpn; rw [HPF.out] at cU; have cE := (HR.out.grow u2).er p hpn; have fU := World.rowIs.frozen (HR.out.grow u2) (p * 4 + 2); have fE := World.rowIs.frozen (HR.out.grow u2) (p * 4); have R3 := Lib.hid (((HR.out.grow u2).setU p true).setE p); have V3 := Lib.hid (((Upd.refl (oneBlock wb.heap.size) w2).setCell (p := ⟨wb.heap.size, p * 4 + 2, none⟩) (.inl rfl) (.bool true)).setCell (p := ⟨wb.heap.size, p * 4, none⟩) (.inl rfl) (.int .i64 ((E p : Nat) + 1 : Int))); have T2 := Lib.hid (HT.out.grow u2); have Z2 := (HU.out.trans u2).size; clear u2)
            | (at_builtin; go_loud (refine wpList_append_tl rfl (.tmp 74) (.tmp 76) _ rfl (wb.heap.size + 1) _ (L.map Int.ofNat) rfl ((T2.out.upd V3.out (fun g h1 h => by unfold oneBlock at h; omega)).grow ((Upd.refl noBlock _).alloc _)) i0 Try.underlying23 hi0 hz0 hz1 hz2 _ (p : Int) rfl (alloc_cell2 _ _ _ _ _ _ _) (by rw [HXL.out]; have := HLL.out; have := HLN.out; omega) (by have := V3.out.size; rw [World.size_alloc]; have := lt_of_block R2.out.choose_spec.1; omega) ?_); intro v3 w3 ht3 hu3; have T3 := Lib.hid ht3; have W3 := Lib.hid hu3; obtain ⟨a3, c3, hv3, hc3, hi3⟩ := ht3.slice; rw [List.length_append, HXL.out, List.length_singleton] at hv3 hc3 hi3; subst hv3; have HC3 := Lib.hid hc3; have HI3 := Lib.hid hi3; clear ht3 hu3 hc3 hi3))
          have V1 : Hid (Upd noBlock wb w3) := by
            have t1 := (HU.out.trans U2.out).step V3.out (R := noBlock) (fun i hi h => by unfold oneBlock at h; omega)
            exact (t1.alloc _).step W3.out (fun i hi h => by omega)
          have R4 : Hid (EvR w3 wb.heap.size n (upE E p) (upU U p true)) := (R3.out.grow ((Upd.refl noBlock _).alloc _)).upd W3.out (fun h => by omega)
          have hU2 := R4.out
          clear cU cE fU fE
          go_cut [8] from 41 to 120 (fun v wx => Hid (∃ U' L', Ev n q (k + 1) (upE E p) U' L' ∧ Tl wx (wb.heap.size + 1) v (L'.map Int.ofNat) ∧ EvR wx wb.heap.size n (upE E p) U') ∧ Hid (Upd noBlock wb wx))
          case first =>
            by_cases hlq : q < ll + 1
            · have hdec : decide (q < ll + 1) = true := decide_eq_true hlq
              obtain ⟨r, L', hrl⟩ : ∃ r L', L ++ [p] = r :: L' := by
                cases L with
                | nil => exact ⟨p, [], rfl⟩
                | cons x xs => exact ⟨x, xs ++ [p], rfl⟩
              have hrn : r < n := HM.out.lt r (by rw [hrl]; exact List.mem_cons_self)
              obtain ⟨g3, off3, hab, hg3, hc3⟩ := HI3.out.cell (by omega)
              subst hab
              have cq : w3.cell? ⟨g3, off3, none⟩ = some (.int .i64 (r : Int)) := by
                have h := hc3 0 (by omega)
                rw [Nat.add_zero] at h
                rw [h]
                have e : L.map Int.ofNat ++ [(p : Int)] = (r : Int) :: L'.map Int.ofNat := by
                  have := congrArg (List.map Int.ofNat) hrl
                  simpa using this
                rw [e]; rfl
              have hU := World.rowIs.cell R4.out (show r * 4 + 2 < n * 4 by omega)
              have fU := World.rowIs.frozen R4.out (r * 4 + 2)
              obtain ⟨uv, huv⟩ : ∃ uv, evc (upE E p) (upU U p true) (r * 4 + 2) = uv := ⟨_, rfl⟩
              rw [huv] at hU
              have hsl : ∀ w : World, (Instr.sliceAt 23 (.slice (some ⟨g3, off3, none⟩) (ll + 1) c3) (some (.int .i64 1)) none none).run Try.prog w = .ok (.slice (if c3 = 1 then some ⟨g3, off3, none⟩ else (some ⟨g3, off3, none⟩ : Option Addr).map (·.add 1)) (ll + 1 - 1) (c3 - 1)) w := fun w => run_slice_hi1 w 23 3 i0 Try.underlying23 hi0 hz1 _ (ll + 1) c3 1 (by omega)
              have T4 : Hid (Tl (w3.setCell ⟨wb.heap.size, r * 4 + 2, none⟩ (.bool false)) (wb.heap.size + 1) (.slice (if c3 = 1 then some ⟨g3, off3, none⟩ else (some ⟨g3, off3, none⟩ : Option Addr).map (·.add 1)) (ll + 1 - 1) (c3 - 1)) (L'.map Int.ofNat)) := by
                have h := T3.out
                have e : L.map Int.ofNat ++ [(p : Int)] = (r : Int) :: L'.map Int.ofNat := by
                  have := congrArg (List.map Int.ofNat) hrl
                  simpa using this
                rw [e] at h
                exact h.tail.upd ((Upd.refl (oneBlock wb.heap.size) w3).setCell (p := ⟨wb.heap.size, r * 4 + 2, none⟩) (.inl rfl) _) (fun g h1 h => by unfold oneBlock at h; omega)
              have R5 : Hid (EvR (w3.setCell ⟨wb.heap.size, r * 4 + 2, none⟩ (.bool false)) wb.heap.size n (upE E p) (upU (upU U p true) r false)) := R4.out.setU r false
              have E5 : Hid (Ev n q (k + 1) (upE E p) (upU (upU U p true) r false) L') := by
                have h := HM.out
                rw [hrl] at h
                refine h.give ?_
                have h2 := congrArg List.length hrl
                rw [List.length_append, HLN.out, List.length_singleton, List.length_cons] at h2
                have := HLL.out
                rw [HLN.out] at this
                omega
              have V5 : Hid (Upd noBlock wb (w3.setCell ⟨wb.heap.size, r * 4 + 2, none⟩ (.bool false))) := V1.out.setCell (.inr (Nat.le_refl _)) _
              generalize (if c3 = 1 then some (⟨g3, off3, none⟩ : Addr) else (some ⟨g3, off3, none⟩ : Option Addr).map (·.add 1)) = A5 at *
              clear hc3 huv hrl hU2
              go_wp2_with fail
              go_meet
              exact ⟨⟨_, _, E5.out, T4.out, R5.out⟩, V5⟩
            · have hdec : decide (q < ll + 1) = false := decide_eq_false hlq
              go_wp2_with fail
              go_meet
              refine ⟨⟨_, L ++ [p], HM.out.keep (by rw [List.length_append, HLN.out, List.length_singleton]; omega), ?_, R4.out⟩, V1⟩
              have e : (L ++ [p]).map Int.ofNat = L.map Int.ofNat ++ [(p : Int)] := by simp
              rw [e]; exact T3.out
          case rest =>
            obtain ⟨HX, V6⟩ := hcut
            obtain ⟨U', L', e6, t6, r6⟩ := HX.out
            have E6 := Lib.hid e6
            have T6 := Lib.hid t6
            have R6 := Lib.hid r6
            have hbd := e6.bnd
            obtain ⟨mm, hmm⟩ := hbd
            have hmx := e6.max
            generalize upE E p = E' at *
            have HMM := Lib.hid hmm
            have HMX := Lib.hid hmx
            have c0 := r6.er 0 (by omega)
            rw [Nat.zero_mul] at c0
            have h00 := hmm 0 (by omega)
            have hx0 := hmx 0
            clear e6 t6 r6 hmm hmx HX
            obtain ⟨wd, rfl⟩ : ∃ wd : World, wd = wc := ⟨_, rfl⟩
            go_wp2_with fail
            go_quiet (fail)
            go_wp2_with fail
            go_loopw [11, 12, 13] (fun v11 v12 v13 wr => ∃ j x y : Nat, 1 ≤ j ∧ j ≤ n ∧ v13 = .int .i64 (j : Int) ∧ v11 = .int .i64 (x : Int) ∧ v12 = .int .i64 (y : Int) ∧ mm ≤ x ∧ x ≤ mm + 1 ∧ mm ≤ y ∧ y ≤ mm + 1 ∧ Hid (wr.heap = wd.heap ∧ Upd noBlock wd wr)) (fun _ _ i _ => n - (intOf i).toNat)
            case atStart => exact ⟨1, _, _, Nat.le_refl _, by omega, rfl, rfl, rfl, h00.1, h00.2, h00.1, h00.2, rfl, (Upd.refl _ _).drewN _⟩
            case round =>
              obtain ⟨j, x, y, hj1, hjn, rfl, rfl, rfl, hx1, hx2, hy1, hy2, HW⟩ := hrel
              by_cases j0 : j < n
              · have cj : wr.cell? ⟨wb.heap.size, j * 4, none⟩ = some (.int .i64 ((E' j : Nat) : Int)) := (World.cell?_of_block (by rw [HW.out.1])).trans (R6.out.er j j0)
                have hej := HMM.out j j0
                have hmj := HMX.out j
                obtain ⟨ej, hee⟩ : ∃ ej, E' j = ej := ⟨_, rfl⟩
                rw [hee] at cj hej hmj
                clear hee
                by_cases ha : ej < x
                · have da : decide (ej < x) = true := decide_eq_true ha
                  by_cases hb : y < ej
                  · have db : decide (y < ej) = true := decide_eq_true hb
                    go_wp2_with fail
                    go_quiet (fail)
                    go_wp2_with fail
                    go_roundw
                    case rel => exact ⟨j + 1, ej, ej, by omega, by omega, by go_num, rfl, rfl, hej.1, hej.2, hej.1, hej.2, HW.out.1, HW.out.2.drewN _⟩
                    case measure => simp [intOf]; omega
                  · have db : decide (y < ej) = false := decide_eq_false hb
                    go_wp2_with fail
                    go_quiet (fail)
                    go_wp2_with fail
                    go_roundw
                    case rel => exact ⟨j + 1, ej, y, by omega, by omega, by go_num, rfl, rfl, hej.1, hej.2, hy1, hy2, HW.out.1, HW.out.2.drewN _⟩
                    case measure => simp [intOf]; omega
                · have da : decide (ej < x) = false := decide_eq_false ha
                  by_cases hb : y < ej
                  · have db : decide (y < ej) = true := decide_eq_true hb
                    go_wp2_with fail
                    go_quiet (fail)
                    go_wp2_with fail
                    go_roundw
                    case rel => exact ⟨j + 1, x, ej, by omega, by omega, by go_num, rfl, rfl, hx1, hx2, hej.1, hej.2, HW.out.1, HW.out.2.drewN _⟩
                    case measure => simp [intOf]; omega
                  · have db : decide (y < ej) = false := decide_eq_false hb
                    go_wp2_with fail
                    go_quiet (fail)
                    go_wp2_with fail
                    go_roundw
                    case rel => exact ⟨j + 1, x, y, by omega, by omega, by go_num, rfl, rfl, hx1, hx2, hy1, hy2, HW.out.1, HW.out.2.drewN _⟩
                    case measure => simp [intOf]; omega
              · obtain rfl : j = n := by omega
                have hdec : decide (1 < (y : Int) - (x : Int)) = false := decide_eq_false (by omega)
                have hmm501 : mm ≤ 501 := by omega
                go_wp2_with fail
                go_roundw
                case rel => exact ⟨k + 1, E', U', L', by omega, by go_num, E6, T6.out.grow HW.out.2, R6.out.grow HW.out.2, V6.out.trans HW.out.2⟩
                case measure => simp [intOf]; omega
        · obtain rfl : k = st := by omega
          go_wp2_with fail
          go_ret
          exact ⟨rfl, U1.out.trans HU.out⟩
theorem wearEven_walk (b u s : Int) (w : World) (_ : (Lit.int .i64 b).wf = true) (_ : (Lit.int .i64 u).wf = true) (_ : (Lit.int .i64 s).wf = true) :
    Calls Try.prog 8 #[.int .i64 b, .int .i64 u, .int .i64 s] w fun e w' => e = .returned (.bool true) ∧ Below w.heap.size w w' :=
  (even_any b u s w).mono fun _ _ ⟨h1, h2⟩ => ⟨h1, h2.below (fun _ _ h => h)⟩
end Go.Proofs.Ytkjajmhanhbkdaa
