/- ParityApart. -/
import Derived.Test.YtkjajmhanhbkdaaTf
namespace Go.Proofs.Ytkjajmhanhbkdaa
open Go.RowKit

theorem usedRow {w : World} {b n : Nat} {l : List Int} (h : w.rowIs b 3 n (fun i => .int .i64 ((l.count (i : Int) : Nat) : Int))) (p : Nat) :
    (w.setCell ⟨b, p, none⟩ (.int .i64 (((l.count (p : Int) : Nat) : Int) + 1))).rowIs b 3 n (fun i => .int .i64 (((l ++ [(p : Int)]).count (i : Int) : Nat) : Int)) := by
  refine (h.set p _).congr fun i _ => ?_
  rw [count_snoc]
  by_cases e : i = p
  · subst e; simp
  · rw [if_neg e, if_neg (by omega)]; simp

set_option maxRecDepth 100000 in
set_option maxHeartbeats 1600000 in
theorem apart_neg_bad (x : Int) (s : Bool) (p : Int) (w : World) (hx : x < 4 ∨ (4 ≤ x ∧ 64 < x) ∨ (4 ≤ x ∧ x ≤ 64 ∧ x % 4 ≠ 0)) (hp : p < 0) :
    Calls Try.prog 6 #[.int .i64 x, .bool s, .int .i64 p] w fun e w' => e = .returned (.bool true) ∧ Upd noBlock w w' := by
  have HO := Lib.hid (fun w => of_bad x s w hx)
  clear hx
  go_enter Try.func6, Try.ntmps6
  go_wp2_with (first | (go_at_call 10; refine (speaks7_any _).mono ?_; rintro e w1 ⟨rfl, u1⟩; have U1 := Lib.hid u1; clear u1) | (go_at_call 19; ((with_reducible refine (group_neg p _ hp).mono ?_); rintro e w' ⟨rfl, rfl⟩)) | (go_at_call 11; ((with_reducible refine (HO.out _).mono ?_); rintro e w2 ⟨rfl, u2⟩; have U2 := Lib.hid u2; clear u2)))
  go_ret
  exact ⟨rfl, (U1.out.trans U2.out).alloc _⟩

set_option maxRecDepth 100000 in
set_option maxHeartbeats 1600000 in
theorem apart_mid_bad (x : Int) (s : Bool) (q : Nat) (w : World) (hx : x < 4 ∨ (4 ≤ x ∧ 64 < x) ∨ (4 ≤ x ∧ x ≤ 64 ∧ x % 4 ≠ 0)) (hp : q < 1152921504606846976) :
    Calls Try.prog 6 #[.int .i64 x, .bool s, .int .i64 (q : Int)] w fun e w' => e = .returned (.bool true) ∧ Upd noBlock w w' := by
  have HO := Lib.hid (fun w => of_bad x s w hx)
  have hpp : pr q ≤ q + 2 := pr_le q
  have HA := Lib.hid (pr_apart q)
  have HQ : Hid (q ≤ 9223372036854775800) := by show _ ≤ _; omega
  have hge : decide ((0 : Int) ≤ (q : Int)) = true := decide_eq_true (by omega)
  have hlt : decide ((q : Int) < 1152921504606846976) = true := decide_eq_true (by omega)
  have hq1 : q ≤ 9223372036854775807 := by omega
  have hq2 : pr q ≤ 9223372036854775807 := by omega
  have hap := HA.out
  clear hx
  go_enter Try.func6, Try.ntmps6
  go_wp2_with (first | (go_at_call 10; refine (speaks7_any _).mono ?_; rintro e w1 ⟨rfl, u1⟩; have U1 := Lib.hid u1; clear u1) | (go_at_call 18; ((with_reducible refine (pair_nat q _ HQ).mono ?_); rintro e w' ⟨rfl, rfl⟩)) | (go_at_call 19; ((with_reducible refine (group_any q _ hq1).mono ?_); rintro e w' ⟨rfl, rfl⟩)) | (go_at_call 19; ((with_reducible refine (group_any (pr q) _ hq2).mono ?_); rintro e w' ⟨rfl, rfl⟩)) | (go_at_call 11; ((with_reducible refine (HO.out _).mono ?_); rintro e w2 ⟨rfl, u2⟩; have U2 := Lib.hid u2; clear u2)))
  go_ret
  exact ⟨rfl, (U1.out.trans U2.out).alloc _⟩

set_option maxRecDepth 100000 in
set_option maxHeartbeats 1600000 in
theorem apart_big_bad (x : Int) (s : Bool) (p : Int) (w : World) (hx : x < 4 ∨ (4 ≤ x ∧ 64 < x) ∨ (4 ≤ x ∧ x ≤ 64 ∧ x % 4 ≠ 0)) (hp : 1152921504606846976 ≤ p) :
    Calls Try.prog 6 #[.int .i64 x, .bool s, .int .i64 p] w fun e w' => e = .returned (.bool true) ∧ Upd noBlock w w' := by
  have HO := Lib.hid (fun w => of_bad x s w hx)
  have hge : decide ((0 : Int) ≤ p) = true := decide_eq_true (by omega)
  have hlt : decide (p < 1152921504606846976) = false := decide_eq_false (by omega)
  have hnn : decide (p < 0) = false := decide_eq_false (by omega)
  clear hx
  go_enter Try.func6, Try.ntmps6
  go_wp2_with (first | (go_at_call 10; refine (speaks7_any _).mono ?_; rintro e w1 ⟨rfl, u1⟩; have U1 := Lib.hid u1; clear u1) | (go_at_call 11; ((with_reducible refine (HO.out _).mono ?_); rintro e w2 ⟨rfl, u2⟩; have U2 := Lib.hid u2; clear u2)))
  go_ret
  exact ⟨rfl, (U1.out.trans U2.out).alloc _⟩

set_option maxRecDepth 100000 in
set_option maxHeartbeats 3200000 in
theorem apart_neg_good (n : Nat) (s : Bool) (p : Int) (w : World) (h1 : 4 ≤ n) (h2 : n ≤ 64) (h3 : n % 4 = 0) (hp : p < 0) :
    Calls Try.prog 6 #[.int .i64 (n : Int), .bool s, .int .i64 p] w fun e w' => e = .returned (.bool true) ∧ Upd noBlock w w' := by
  have HO := Lib.hid (fun w => of_in n s w h1 h2 h3)
  have HF := Lib.hid (apart_of n s h1 h2 h3)
  have HPG := Lib.hid (dl_pages s (n - 3) (by omega))
  have hD : (dl s (n - 3)).length ≤ 61 := by have := dl_len s (n - 3); omega
  have hPn : (parL s n).length ≤ 2 := by unfold parL; split <;> simp
  have hmk := run_make_row' (P := Try.prog) 23 3 (.int .i64 0) 8 Try.underlying23 (by kernel_rfl) rfl .i64 .i64 n (by omega) (by omega)
  generalize dl s (n - 3) = D at *
  generalize parL s n = P at *
  obtain ⟨nd, hn⟩ : ∃ nd, D.length = nd := ⟨_, rfl⟩
  obtain ⟨m, hm⟩ : ∃ m, P.length = m := ⟨_, rfl⟩
  rw [hn] at hD
  rw [hm] at hPn
  have HNn := Lib.hid hn
  have HMm := Lib.hid hm
  have HM3 := Lib.hid h3
  clear hn hm h3
  go_enter Try.func6, Try.ntmps6
  go_wp2_with (first | (go_at_call 10; refine (speaks7_any _).mono ?_; rintro e w1 ⟨rfl, u1⟩; have U1 := Lib.hid u1; clear u1) | (go_at_call 19; ((with_reducible refine (group_neg p _ hp).mono ?_); rintro e w' ⟨rfl, rfl⟩)) | (go_at_call 11; ((with_reducible refine (HO.out _).mono ?_); rintro e w2 ⟨v1, v2, rfl, o1, o2, u2⟩; obtain ⟨a1, c1, rfl, s1, r1⟩ := o1.slN HNn.out; obtain ⟨a2, c2, rfl, s2, r2⟩ := o2.slN HMm.out; have U2 := Lib.hid u2; have S1 := Lib.hid s1; have S2 := Lib.hid s2; clear u2 s1 s2 r1 r2 o1 o2)))
  obtain ⟨wb, hwb⟩ : ∃ wb, wb = (w2.alloc (.cells #[.slice a1 nd c1, .slice a2 m c2] 25)).alloc (.cells (madeCells #[.int .i64 0] n) 3) := ⟨_, rfl⟩
  have B1 : Hid (wb.heap[w2.heap.size]? = some (.cells #[.slice a1 nd c1, .slice a2 m c2] 25 (0, 0))) := by rw [hwb]; exact block_alloc (heap_alloc_new w2 _) _
  have UU : Hid (wb.rowIs (w2.heap.size + 1) 3 n (fun i => .int .i64 (((D.take 0).count (i : Int) : Nat) : Int))) := by
    rw [hwb]
    have := World.rowIs_made (w2.alloc (.cells #[.slice a1 nd c1, .slice a2 m c2] 25)) (.int .i64 0) n 3
    rw [World.size_alloc] at this
    exact this.congr fun i _ => by simp
  have UB : Hid (Upd noBlock w2 wb) := by rw [hwb]; exact ((Upd.refl _ _).alloc _).alloc _
  have SB1 : Hid (Sl wb w1.heap.size w2.heap.size a1 nd D) := S1.out.grow UB.out (Nat.le_refl _)
  have SB2 : Hid (Sl wb w1.heap.size w2.heap.size a2 m P) := S2.out.grow UB.out (Nat.le_refl _)
  have zb : w2.heap.size + 2 ≤ wb.heap.size := by rw [hwb]; simp
  rw [← hwb]
  clear hwb S1 S2 hmk
  go_loopw [12] (fun i wr => ∃ k : Nat, k ≤ nd ∧ i = .int .i64 (k : Int) ∧ Hid (wr.rowIs (w2.heap.size + 1) 3 n (fun i => .int .i64 (((D.take k).count (i : Int) : Nat) : Int))) ∧ Hid (Upd (oneBlock (w2.heap.size + 1)) wb wr)) (fun i _ => nd - (intOf i).toNat)
  case atStart => exact ⟨0, Nat.zero_le _, rfl, UU, Upd.refl _ _⟩
  case round =>
    clear UU
    obtain ⟨k, hk, rfl, HR, HU⟩ := hrel
    have bp : Hid (wr.heap[w2.heap.size]? = some (.cells #[.slice a1 nd c1, .slice a2 m c2] 25 (0, 0))) := (HU.out.block _ (by omega) (fun h => by unfold oneBlock at h; omega)).trans B1.out
    have q0 := cell_of bp.out 0
    have q1 := cell_of bp.out 1
    have i1 := (SB1.out.upd HU.out (by omega) (fun g _ h1 h => by unfold oneBlock at h; omega)).i
    by_cases h0 : k < nd
    · have hl := HNn.out
      obtain ⟨pk, hpk, hpn⟩ := HF.out.d k (by omega)
      obtain ⟨b, off, hab, hb, hc⟩ := i1.cell (by omega)
      subst hab
      have cd : wr.cell? ⟨b, off + k, none⟩ = some (.int .i64 (pk : Int)) := by rw [← hpk]; exact hc k h0
      have cu := HR.out.cell hpn
      have fu := HR.out.frozen pk
      have hcnt : (D.take k).count (pk : Int) ≤ 64 := by
        have h := List.count_le_length (a := (pk : Int)) (l := D.take k)
        rw [List.length_take] at h
        omega
      have HR2 := Lib.hid (usedRow HR.out pk)
      have HT := Lib.hid (take_snoc D k (by omega))
      have HPK := Lib.hid hpk
      have HU2 := Lib.hid (HU.out.setCell (p := ⟨w2.heap.size + 1, pk, none⟩) (.inl rfl) (.int .i64 ((((D.take k).count (pk : Int) : Nat) : Int) + 1)))
      obtain ⟨cn, hcn⟩ : ∃ cn, (D.take k).count (pk : Int) = cn := ⟨_, rfl⟩
      rw [hcn] at cu hcnt HR2 HU2
      have nb : ¬ b = w2.heap.size + 1 := by omega
      have nb2 : ¬ w2.heap.size = w2.heap.size + 1 := by omega
      by_cases hk0 : k = 0
      · subst hk0
        have e0 : ((0 : Nat) : Int) = 0 := rfl
        rw [e0]
        rw [Nat.add_zero] at cd
        clear hc hpk hcn HR hl i1 e0
        go_wp2
        go_quiet (fail)
        go_wp2
        go_roundw
        case rel => exact ⟨1, by omega, by go_num, by rw [HT.out, HPK.out]; exact HR2.out.of_block rfl, HU2.out.drewN _⟩
        case measure => simp [intOf]; omega
      · obtain ⟨j, hj⟩ : ∃ j, k = j + 1 := ⟨k - 1, by omega⟩
        obtain ⟨pj, hpj, hpjn⟩ := HF.out.d j (by omega)
        have hinc := HF.out.inc j (by omega)
        rw [← hj, hpj, hpk] at hinc
        have hdec : decide (pk ≤ pj) = false := decide_eq_false (by omega)
        have cj : wr.cell? ⟨b, off + j, none⟩ = some (.int .i64 (pj : Int)) := by rw [← hpj]; exact hc j (by omega)
        have ej : (k : Int) - 1 = (j : Int) := by omega
        have ek : decide (0 < k) = true := decide_eq_true (by omega)
        have ek' : 0 < k := by omega
        have hj' : j < nd := by omega
        have hji : (j : Int) < (nd : Int) := by omega
        have hj0 : ¬ (j : Int) < 0 := by omega
        have ewj : IntKind.i64.wrap (j : Int) = (j : Int) := wrap_i64_nat j (by omega)
        clear hj hc hpk hpj hcn HR hl i1 hk0 hinc
        go_wp2
        go_quiet (fail)
        go_wp2
        go_roundw
        case rel => exact ⟨k + 1, by omega, by go_num, by rw [HT.out, HPK.out]; exact HR2.out.of_block rfl, HU2.out.drewN _⟩
        case measure => simp [intOf]; omega
    · obtain rfl : k = nd := by omega
      have e : D.take k = D := List.take_of_length_le (by have := HNn.out; omega)
      rw [e] at HR
      have SC1 := Lib.hid (SB1.out.upd HU.out (by omega) (fun g _ h1 h => by unfold oneBlock at h; omega))
      have SC2 := Lib.hid (SB2.out.upd HU.out (by omega) (fun g _ h1 h => by unfold oneBlock at h; omega))
      have zc : wb.heap.size ≤ wr.heap.size := HU.out.size
      clear i1 e
      go_wp2
      clear q0 q1
      obtain ⟨wm, hwm⟩ : ∃ wm : World, wm = wr := ⟨_, rfl⟩
      rw [← hwm]
      rw [← hwm] at HR SC1 SC2 HU zc
      have bpm : Hid (wm.heap[w2.heap.size]? = some (.cells #[.slice a1 k c1, .slice a2 m c2] 25 (0, 0))) := by rw [hwm]; exact bp.out
      have UM : Hid (Upd noBlock w wm) := ((U1.out.trans U2.out).trans UB.out).step HU.out (fun i hi h => by unfold oneBlock at h; have := U1.out.size; have := U2.out.size; omega)
      clear hwm bp wr
      have HR0 : Hid (wm.rowIs (w2.heap.size + 1) 3 n (fun i => .int .i64 (((D ++ P.take 0).count (i : Int) : Nat) : Int))) := by rw [List.take_zero, List.append_nil]; exact HR.out
      clear HR
      go_loopw [13] (fun i wr => ∃ l : Nat, l ≤ m ∧ i = .int .i64 (l : Int) ∧ Hid (wr.rowIs (w2.heap.size + 1) 3 n (fun i => .int .i64 (((D ++ P.take l).count (i : Int) : Nat) : Int))) ∧ Hid (Upd (oneBlock (w2.heap.size + 1)) wm wr)) (fun i _ => m - (intOf i).toNat)
      case atStart => exact ⟨0, Nat.zero_le _, rfl, HR0, Upd.refl _ _⟩
      case round =>
        clear HR0
        obtain ⟨l, hl, rfl, HR, HQ⟩ := hrel
        have bp : Hid (wr.heap[w2.heap.size]? = some (.cells #[.slice a1 k c1, .slice a2 m c2] 25 (0, 0))) := (HQ.out.block _ (by omega) (fun h => by unfold oneBlock at h; omega)).trans bpm.out
        have q0 := cell_of bp.out 0
        have q1 := cell_of bp.out 1
        have hzr : wm.heap.size ≤ wr.heap.size := HQ.out.size
        by_cases l0 : l < m
        · have i1 := Lib.hid (SC1.out.upd HQ.out (by omega) (fun g _ h1 h => by unfold oneBlock at h; omega)).i
          have i2 := (SC2.out.upd HQ.out (by omega) (fun g _ h1 h => by unfold oneBlock at h; omega)).i
          have hlm := HMm.out
          obtain ⟨pl, hpl, hpn, hpg⟩ := HF.out.p l (by omega)
          obtain ⟨b, off, hab, hb, hc⟩ := i2.cell (by omega)
          subst hab
          have cd : wr.cell? ⟨b, off + l, none⟩ = some (.int .i64 (pl : Int)) := by rw [← hpl]; exact hc l l0
          have cu := HR.out.cell hpn
          have fu := HR.out.frozen pl
          have hcnt : (D ++ P.take l).count (pl : Int) ≤ 64 := by
            have h := List.count_le_length (a := (pl : Int)) (l := D ++ P.take l)
            rw [List.length_append, List.length_take, HNn.out] at h
            omega
          have hr2 := usedRow HR.out pl
          rw [List.append_assoc, ← hpl, ← take_snoc P l (by omega), hpl] at hr2
          have HR2 := Lib.hid hr2
          have HPK := Lib.hid hpl
          have HPG2 := Lib.hid hpg
          obtain ⟨cn, hcn⟩ : ∃ cn, (D ++ P.take l).count (pl : Int) = cn := ⟨_, rfl⟩
          rw [hcn] at cu hcnt HR2
          have HU2 := Lib.hid (HQ.out.setCell (p := ⟨w2.heap.size + 1, pl, none⟩) (.inl rfl) (.int .i64 ((cn : Int) + 1)))
          have nb : ¬ b = w2.heap.size + 1 := by omega
          have nb2 : ¬ w2.heap.size = w2.heap.size + 1 := by omega
          obtain ⟨W, hW⟩ : ∃ W, ml (l : Int) D = W := ⟨_, rfl⟩
          obtain ⟨nw, hnw⟩ : ∃ nw, W.length = nw := ⟨_, rfl⟩
          have HWW := Lib.hid hW
          have HNW := Lib.hid hnw
          have hlast := HF.out.last l (by omega)
          rw [hW, hnw, hpl] at hlast
          have HLA := Lib.hid hlast
          have hnwl : nw ≤ 61 := by
            have := ml_len (l : Int) D D.length
            rw [List.take_of_length_le (Nat.le_refl _), hW, hnw, HNn.out] at this
            omega
          clear hc hpl hcn HR hlm i2 hpg hr2 hW hnw hlast
          obtain ⟨wv, hwv⟩ : ∃ wv, wv = wr.setCell ⟨w2.heap.size + 1, pl, none⟩ (.int .i64 ((cn : Int) + 1)) := ⟨_, rfl⟩
          have hi1 : Hid (Ints wv w2.heap.size a1 k D) := by rw [hwv]; exact i1.out.keep fun g hg hgl => Below.heap_setCell _ _ _ _ (by show ¬ g = w2.heap.size + 1; omega)
          have hbv : Hid (wv.heap[w2.heap.size]? = some (.cells #[.slice a1 k c1, .slice (some ⟨b, off, none⟩) m c2] 25 (0, 0))) := by rw [hwv]; exact block_set_other bp.out nb2 _
          have cdv : Hid (wv.cell? ⟨b, off + l, none⟩ = some (.int .i64 (pl : Int))) := by rw [hwv]; exact (World.cell?_of_block (Below.heap_setCell _ _ _ _ (by show ¬ b = w2.heap.size + 1; exact nb))).trans cd
          rw [← hwv] at HR2 HU2
          have szv : Hid (wv.heap.size = wr.heap.size) := by rw [hwv]; show _ = _; simp [World.setCell]
          have HWV := Lib.hid hwv
          clear hwv i1
          go_wp2_with (go_at_call 15; rw [← HWV.out]; ((with_reducible refine (members_any a1 k c1 _ _ D (l : Int) wv hi1.out (by have := szv.out; omega) HPG.out (by omega)).mono ?_); rintro e w7 ⟨v, rfl, o1, u2⟩; rw [HWW.out] at o1; obtain ⟨a8, c8, rfl, s8, r8⟩ := o1.slN HNW.out; have U7 := Lib.hid u2; have S8 := Lib.hid s8; clear o1 u2 s8 r8))
          have b7 : Hid (w7.heap[w2.heap.size]? = some (.cells #[.slice a1 k c1, .slice (some ⟨b, off, none⟩) m c2] 25 (0, 0))) := (U7.out.block _ (lt_of_block hbv.out) (fun h => h)).trans hbv.out
          have p1 := cell_of b7.out 1
          have cd7 : w7.cell? ⟨b, off + l, none⟩ = some (.int .i64 (pl : Int)) := (World.cell?_of_block (U7.out.block b (by have := szv.out; omega) (fun h => h))).trans cdv.out
          have hgq : ∀ wz, Calls Try.prog 19 #[.int .i64 (pl : Int)] wz fun e w' => e = .returned (.int .i64 (l : Int)) ∧ wz = w' := fun wz => by rw [← HPG2.out]; exact group_any pl wz (by omega)
          clear q0 q1 cd cu fu
          by_cases hw0 : nw = 0
          · subst hw0
            go_quiet ((go_at_call 19; exact Calls.quiet_of_same ((hgq _).mono fun _ _ ⟨h, hw⟩ => ⟨h, hw.symm⟩)))
            go_wp2
            go_roundw
            case rel => exact ⟨l + 1, by omega, by go_num, (HR2.out.of_block (U7.out.block _ (by have := szv.out; omega) (fun h => h))).of_block rfl, (HU2.out.step U7.out (fun _ _ h => h.elim)).drewN _⟩
            case measure => simp [intOf]; omega
          · obtain ⟨jn, hjn⟩ : ∃ jn, nw = jn + 1 := ⟨nw - 1, by omega⟩
            obtain ⟨b8, off8, hab8, hb8, hc8⟩ := S8.out.i.cell (by omega)
            subst hab8
            have hz := HLA.out (by omega)
            rw [show nw - 1 = jn by omega] at hz
            obtain ⟨z, hzz⟩ : ∃ z, W.getD jn 0 = z := ⟨_, rfl⟩
            rw [hzz] at hz
            have c8' : w7.cell? ⟨b8, off8 + jn, none⟩ = some (.int .i64 z) := by rw [← hzz]; exact hc8 jn (by omega)
            have hdec : decide ((pl : Int) < z) = false := decide_eq_false (by omega)
            have hdec' : ¬ (pl : Int) < z := by omega
            have ej : (nw : Int) - 1 = (jn : Int) := by omega
            have ewj : IntKind.i64.wrap (jn : Int) = (jn : Int) := wrap_i64_nat jn (by omega)
            have hji : (jn : Int) < (nw : Int) := by omega
            have hj' : jn < nw := by omega
            have ek : decide (0 < nw) = true := decide_eq_true (by omega)
            have ek' : 0 < nw := by omega
            clear hjn hz hzz hc8 hw0
            go_quiet ((go_at_call 19; exact Calls.quiet_of_same ((hgq _).mono fun _ _ ⟨h, hw⟩ => ⟨h, hw.symm⟩)))
            go_wp2
            go_roundw
            case rel => exact ⟨l + 1, by omega, by go_num, (HR2.out.of_block (U7.out.block _ (by have := szv.out; omega) (fun h => h))).of_block rfl, (HU2.out.step U7.out (fun _ _ h => h.elim)).drewN _⟩
            case measure => simp [intOf]; omega
        · obtain rfl : l = m := by omega
          have e : P.take l = P := List.take_of_length_le (by have := HMm.out; omega)
          rw [e] at HR
          clear e q0
          go_wp2
          clear q1
          obtain ⟨wk, hwk⟩ : ∃ wk : World, wk = wr := ⟨_, rfl⟩
          rw [← hwk]
          rw [← hwk] at HR HQ
          have UK : Hid (Upd noBlock w wk) := UM.out.step HQ.out (fun i hi h => by unfold oneBlock at h; have := U1.out.size; have := U2.out.size; omega)
          clear hwk bp
          go_loopw [15] (fun i wr => ∃ t : Nat, t ≤ n ∧ i = .int .i64 (t : Int) ∧ Hid (wk = wr)) (fun i _ => n - (intOf i).toNat)
          case atStart => exact ⟨0, Nat.zero_le _, rfl, rfl⟩
          case round =>
            obtain ⟨t, ht, rfl, HW⟩ := hrel
            obtain rfl := HW.out
            clear HW
            by_cases t0 : t < n
            · have cu := HR.out.cell t0
              have hcn := HF.out.cnt t t0
              have ht64 : t ≤ 9223372036854775807 := by omega
              rcases hcn with hcn | ⟨hcn, hcn2⟩
              · rw [hcn] at cu
                have cu' : wk.cell? ⟨w2.heap.size + 1, t, none⟩ = some (.int .i64 1) := cu
                clear cu hcn
                go_wp2_with fail
                go_roundw
                case rel => exact ⟨t + 1, by omega, by go_num, (by first | exact rfl | exact trivial)⟩
                case measure => simp [intOf]; omega
              · rw [hcn] at cu
                have cu' : wk.cell? ⟨w2.heap.size + 1, t, none⟩ = some (.int .i64 0) := cu
                clear cu hcn
                by_cases e2 : t + 2 = n
                · have e3 : (n : Int) - 2 = (t : Int) := by omega
                  clear hcn2 e2
                  go_wp2_with fail
                  go_roundw
                  case rel => exact ⟨t + 1, by omega, by go_num, (by first | exact rfl | exact trivial)⟩
                  case measure => simp [intOf]; omega
                · have e3 : ((t : Int) == (n : Int) - 2) = false := beq_eq_false_iff_ne.2 (by omega)
                  obtain ⟨rfl, hg1⟩ : s = true ∧ grp t = 1 := by
                    rcases hcn2 with h | h
                    · exact absurd h e2
                    · exact h
                  have HG := Lib.hid hg1
                  clear hcn2 e2 hg1
                  go_wp2_with (go_at_call 19; refine (group_any t _ ht64).mono ?_; rintro e w' ⟨rfl, rfl⟩; rw [HG.out])
                  go_roundw
                  case rel => exact ⟨t + 1, by omega, by go_num, (by first | exact rfl | exact trivial)⟩
                  case measure => simp [intOf]; omega
            · obtain rfl : t = n := by omega
              go_wp2_with fail
              go_ret
              exact ⟨rfl, UK.out⟩

set_option maxRecDepth 100000 in
set_option maxHeartbeats 3200000 in
theorem apart_mid_good (n : Nat) (s : Bool) (q : Nat) (w : World) (h1 : 4 ≤ n) (h2 : n ≤ 64) (h3 : n % 4 = 0) (hp : q < 1152921504606846976) :
    Calls Try.prog 6 #[.int .i64 (n : Int), .bool s, .int .i64 (q : Int)] w fun e w' => e = .returned (.bool true) ∧ Upd noBlock w w' := by
  have HO := Lib.hid (fun w => of_in n s w h1 h2 h3)
  have HF := Lib.hid (apart_of n s h1 h2 h3)
  have HPG := Lib.hid (dl_pages s (n - 3) (by omega))
  have hD : (dl s (n - 3)).length ≤ 61 := by have := dl_len s (n - 3); omega
  have hPn : (parL s n).length ≤ 2 := by unfold parL; split <;> simp
  have hmk := run_make_row' (P := Try.prog) 23 3 (.int .i64 0) 8 Try.underlying23 (by kernel_rfl) rfl .i64 .i64 n (by omega) (by omega)
  have hpp : pr q ≤ q + 2 := pr_le q
  have HA := Lib.hid (pr_apart q)
  have HQ : Hid (q ≤ 9223372036854775800) := by show _ ≤ _; omega
  have hge : decide ((0 : Int) ≤ (q : Int)) = true := decide_eq_true (by omega)
  have hlt : decide ((q : Int) < 1152921504606846976) = true := decide_eq_true (by omega)
  have hq1 : q ≤ 9223372036854775807 := by omega
  have hq2 : pr q ≤ 9223372036854775807 := by omega
  have hap := HA.out
  generalize dl s (n - 3) = D at *
  generalize parL s n = P at *
  obtain ⟨nd, hn⟩ : ∃ nd, D.length = nd := ⟨_, rfl⟩
  obtain ⟨m, hm⟩ : ∃ m, P.length = m := ⟨_, rfl⟩
  rw [hn] at hD
  rw [hm] at hPn
  have HNn := Lib.hid hn
  have HMm := Lib.hid hm
  have HM3 := Lib.hid h3
  clear hn hm h3
  go_enter Try.func6, Try.ntmps6
  go_wp2_with (first | (go_at_call 10; refine (speaks7_any _).mono ?_; rintro e w1 ⟨rfl, u1⟩; have U1 := Lib.hid u1; clear u1) | (go_at_call 18; ((with_reducible refine (pair_nat q _ HQ).mono ?_); rintro e w' ⟨rfl, rfl⟩)) | (go_at_call 19; ((with_reducible refine (group_any q _ hq1).mono ?_); rintro e w' ⟨rfl, rfl⟩)) | (go_at_call 19; ((with_reducible refine (group_any (pr q) _ hq2).mono ?_); rintro e w' ⟨rfl, rfl⟩)) | (go_at_call 11; ((with_reducible refine (HO.out _).mono ?_); rintro e w2 ⟨v1, v2, rfl, o1, o2, u2⟩; obtain ⟨a1, c1, rfl, s1, r1⟩ := o1.slN HNn.out; obtain ⟨a2, c2, rfl, s2, r2⟩ := o2.slN HMm.out; have U2 := Lib.hid u2; have S1 := Lib.hid s1; have S2 := Lib.hid s2; clear u2 s1 s2 r1 r2 o1 o2)))
  obtain ⟨wb, hwb⟩ : ∃ wb, wb = (w2.alloc (.cells #[.slice a1 nd c1, .slice a2 m c2] 25)).alloc (.cells (madeCells #[.int .i64 0] n) 3) := ⟨_, rfl⟩
  have B1 : Hid (wb.heap[w2.heap.size]? = some (.cells #[.slice a1 nd c1, .slice a2 m c2] 25 (0, 0))) := by rw [hwb]; exact block_alloc (heap_alloc_new w2 _) _
  have UU : Hid (wb.rowIs (w2.heap.size + 1) 3 n (fun i => .int .i64 (((D.take 0).count (i : Int) : Nat) : Int))) := by
    rw [hwb]
    have := World.rowIs_made (w2.alloc (.cells #[.slice a1 nd c1, .slice a2 m c2] 25)) (.int .i64 0) n 3
    rw [World.size_alloc] at this
    exact this.congr fun i _ => by simp
  have UB : Hid (Upd noBlock w2 wb) := by rw [hwb]; exact ((Upd.refl _ _).alloc _).alloc _
  have SB1 : Hid (Sl wb w1.heap.size w2.heap.size a1 nd D) := S1.out.grow UB.out (Nat.le_refl _)
  have SB2 : Hid (Sl wb w1.heap.size w2.heap.size a2 m P) := S2.out.grow UB.out (Nat.le_refl _)
  have zb : w2.heap.size + 2 ≤ wb.heap.size := by rw [hwb]; simp
  rw [← hwb]
  clear hwb S1 S2 hmk
  go_loopw [12] (fun i wr => ∃ k : Nat, k ≤ nd ∧ i = .int .i64 (k : Int) ∧ Hid (wr.rowIs (w2.heap.size + 1) 3 n (fun i => .int .i64 (((D.take k).count (i : Int) : Nat) : Int))) ∧ Hid (Upd (oneBlock (w2.heap.size + 1)) wb wr)) (fun i _ => nd - (intOf i).toNat)
  case atStart => exact ⟨0, Nat.zero_le _, rfl, UU, Upd.refl _ _⟩
  case round =>
    clear UU
    obtain ⟨k, hk, rfl, HR, HU⟩ := hrel
    have bp : Hid (wr.heap[w2.heap.size]? = some (.cells #[.slice a1 nd c1, .slice a2 m c2] 25 (0, 0))) := (HU.out.block _ (by omega) (fun h => by unfold oneBlock at h; omega)).trans B1.out
    have q0 := cell_of bp.out 0
    have q1 := cell_of bp.out 1
    have i1 := (SB1.out.upd HU.out (by omega) (fun g _ h1 h => by unfold oneBlock at h; omega)).i
    by_cases h0 : k < nd
    · have hl := HNn.out
      obtain ⟨pk, hpk, hpn⟩ := HF.out.d k (by omega)
      obtain ⟨b, off, hab, hb, hc⟩ := i1.cell (by omega)
      subst hab
      have cd : wr.cell? ⟨b, off + k, none⟩ = some (.int .i64 (pk : Int)) := by rw [← hpk]; exact hc k h0
      have cu := HR.out.cell hpn
      have fu := HR.out.frozen pk
      have hcnt : (D.take k).count (pk : Int) ≤ 64 := by
        have h := List.count_le_length (a := (pk : Int)) (l := D.take k)
        rw [List.length_take] at h
        omega
      have HR2 := Lib.hid (usedRow HR.out pk)
      have HT := Lib.hid (take_snoc D k (by omega))
      have HPK := Lib.hid hpk
      have HU2 := Lib.hid (HU.out.setCell (p := ⟨w2.heap.size + 1, pk, none⟩) (.inl rfl) (.int .i64 ((((D.take k).count (pk : Int) : Nat) : Int) + 1)))
      obtain ⟨cn, hcn⟩ : ∃ cn, (D.take k).count (pk : Int) = cn := ⟨_, rfl⟩
      rw [hcn] at cu hcnt HR2 HU2
      have nb : ¬ b = w2.heap.size + 1 := by omega
      have nb2 : ¬ w2.heap.size = w2.heap.size + 1 := by omega
      by_cases hk0 : k = 0
      · subst hk0
        have e0 : ((0 : Nat) : Int) = 0 := rfl
        rw [e0]
        rw [Nat.add_zero] at cd
        clear hc hpk hcn HR hl i1 e0
        go_wp2
        go_quiet (fail)
        go_wp2
        go_roundw
        case rel => exact ⟨1, by omega, by go_num, by rw [HT.out, HPK.out]; exact HR2.out.of_block rfl, HU2.out.drewN _⟩
        case measure => simp [intOf]; omega
      · obtain ⟨j, hj⟩ : ∃ j, k = j + 1 := ⟨k - 1, by omega⟩
        obtain ⟨pj, hpj, hpjn⟩ := HF.out.d j (by omega)
        have hinc := HF.out.inc j (by omega)
        rw [← hj, hpj, hpk] at hinc
        have hdec : decide (pk ≤ pj) = false := decide_eq_false (by omega)
        have cj : wr.cell? ⟨b, off + j, none⟩ = some (.int .i64 (pj : Int)) := by rw [← hpj]; exact hc j (by omega)
        have ej : (k : Int) - 1 = (j : Int) := by omega
        have ek : decide (0 < k) = true := decide_eq_true (by omega)
        have ek' : 0 < k := by omega
        have hj' : j < nd := by omega
        have hji : (j : Int) < (nd : Int) := by omega
        have hj0 : ¬ (j : Int) < 0 := by omega
        have ewj : IntKind.i64.wrap (j : Int) = (j : Int) := wrap_i64_nat j (by omega)
        clear hj hc hpk hpj hcn HR hl i1 hk0 hinc
        go_wp2
        go_quiet (fail)
        go_wp2
        go_roundw
        case rel => exact ⟨k + 1, by omega, by go_num, by rw [HT.out, HPK.out]; exact HR2.out.of_block rfl, HU2.out.drewN _⟩
        case measure => simp [intOf]; omega
    · obtain rfl : k = nd := by omega
      have e : D.take k = D := List.take_of_length_le (by have := HNn.out; omega)
      rw [e] at HR
      have SC1 := Lib.hid (SB1.out.upd HU.out (by omega) (fun g _ h1 h => by unfold oneBlock at h; omega))
      have SC2 := Lib.hid (SB2.out.upd HU.out (by omega) (fun g _ h1 h => by unfold oneBlock at h; omega))
      have zc : wb.heap.size ≤ wr.heap.size := HU.out.size
      clear i1 e
      go_wp2
      clear q0 q1
      obtain ⟨wm, hwm⟩ : ∃ wm : World, wm = wr := ⟨_, rfl⟩
      rw [← hwm]
      rw [← hwm] at HR SC1 SC2 HU zc
      have bpm : Hid (wm.heap[w2.heap.size]? = some (.cells #[.slice a1 k c1, .slice a2 m c2] 25 (0, 0))) := by rw [hwm]; exact bp.out
      have UM : Hid (Upd noBlock w wm) := ((U1.out.trans U2.out).trans UB.out).step HU.out (fun i hi h => by unfold oneBlock at h; have := U1.out.size; have := U2.out.size; omega)
      clear hwm bp wr
      have HR0 : Hid (wm.rowIs (w2.heap.size + 1) 3 n (fun i => .int .i64 (((D ++ P.take 0).count (i : Int) : Nat) : Int))) := by rw [List.take_zero, List.append_nil]; exact HR.out
      clear HR
      go_loopw [13] (fun i wr => ∃ l : Nat, l ≤ m ∧ i = .int .i64 (l : Int) ∧ Hid (wr.rowIs (w2.heap.size + 1) 3 n (fun i => .int .i64 (((D ++ P.take l).count (i : Int) : Nat) : Int))) ∧ Hid (Upd (oneBlock (w2.heap.size + 1)) wm wr)) (fun i _ => m - (intOf i).toNat)
      case atStart => exact ⟨0, Nat.zero_le _, rfl, HR0, Upd.refl _ _⟩
      case round =>
        clear HR0
        obtain ⟨l, hl, rfl, HR, HQ⟩ := hrel
        have bp : Hid (wr.heap[w2.heap.size]? = some (.cells #[.slice a1 k c1, .slice a2 m c2] 25 (0, 0))) := (HQ.out.block _ (by omega) (fun h => by unfold oneBlock at h; omega)).trans bpm.out
        have q0 := cell_of bp.out 0
        have q1 := cell_of bp.out 1
        have hzr : wm.heap.size ≤ wr.heap.size := HQ.out.size
        by_cases l0 : l < m
        · have i1 := Lib.hid (SC1.out.upd HQ.out (by omega) (fun g _ h1 h => by unfold oneBlock at h; omega)).i
          have i2 := (SC2.out.upd HQ.out (by omega) (fun g _ h1 h => by unfold oneBlock at h; omega)).i
          have hlm := HMm.out
          obtain ⟨pl, hpl, hpn, hpg⟩ := HF.out.p l (by omega)
          obtain ⟨b, off, hab, hb, hc⟩ := i2.cell (by omega)
          subst hab
          have cd : wr.cell? ⟨b, off + l, none⟩ = some (.int .i64 (pl : Int)) := by rw [← hpl]; exact hc l l0
          have cu := HR.out.cell hpn
          have fu := HR.out.frozen pl
          have hcnt : (D ++ P.take l).count (pl : Int) ≤ 64 := by
            have h := List.count_le_length (a := (pl : Int)) (l := D ++ P.take l)
            rw [List.length_append, List.length_take, HNn.out] at h
            omega
          have hr2 := usedRow HR.out pl
          rw [List.append_assoc, ← hpl, ← take_snoc P l (by omega), hpl] at hr2
          have HR2 := Lib.hid hr2
          have HPK := Lib.hid hpl
          have HPG2 := Lib.hid hpg
          obtain ⟨cn, hcn⟩ : ∃ cn, (D ++ P.take l).count (pl : Int) = cn := ⟨_, rfl⟩
          rw [hcn] at cu hcnt HR2
          have HU2 := Lib.hid (HQ.out.setCell (p := ⟨w2.heap.size + 1, pl, none⟩) (.inl rfl) (.int .i64 ((cn : Int) + 1)))
          have nb : ¬ b = w2.heap.size + 1 := by omega
          have nb2 : ¬ w2.heap.size = w2.heap.size + 1 := by omega
          obtain ⟨W, hW⟩ : ∃ W, ml (l : Int) D = W := ⟨_, rfl⟩
          obtain ⟨nw, hnw⟩ : ∃ nw, W.length = nw := ⟨_, rfl⟩
          have HWW := Lib.hid hW
          have HNW := Lib.hid hnw
          have hlast := HF.out.last l (by omega)
          rw [hW, hnw, hpl] at hlast
          have HLA := Lib.hid hlast
          have hnwl : nw ≤ 61 := by
            have := ml_len (l : Int) D D.length
            rw [List.take_of_length_le (Nat.le_refl _), hW, hnw, HNn.out] at this
            omega
          clear hc hpl hcn HR hlm i2 hpg hr2 hW hnw hlast
          obtain ⟨wv, hwv⟩ : ∃ wv, wv = wr.setCell ⟨w2.heap.size + 1, pl, none⟩ (.int .i64 ((cn : Int) + 1)) := ⟨_, rfl⟩
          have hi1 : Hid (Ints wv w2.heap.size a1 k D) := by rw [hwv]; exact i1.out.keep fun g hg hgl => Below.heap_setCell _ _ _ _ (by show ¬ g = w2.heap.size + 1; omega)
          have hbv : Hid (wv.heap[w2.heap.size]? = some (.cells #[.slice a1 k c1, .slice (some ⟨b, off, none⟩) m c2] 25 (0, 0))) := by rw [hwv]; exact block_set_other bp.out nb2 _
          have cdv : Hid (wv.cell? ⟨b, off + l, none⟩ = some (.int .i64 (pl : Int))) := by rw [hwv]; exact (World.cell?_of_block (Below.heap_setCell _ _ _ _ (by show ¬ b = w2.heap.size + 1; exact nb))).trans cd
          rw [← hwv] at HR2 HU2
          have szv : Hid (wv.heap.size = wr.heap.size) := by rw [hwv]; show _ = _; simp [World.setCell]
          have HWV := Lib.hid hwv
          clear hwv i1
          go_wp2_with (go_at_call 15; rw [← HWV.out]; ((with_reducible refine (members_any a1 k c1 _ _ D (l : Int) wv hi1.out (by have := szv.out; omega) HPG.out (by omega)).mono ?_); rintro e w7 ⟨v, rfl, o1, u2⟩; rw [HWW.out] at o1; obtain ⟨a8, c8, rfl, s8, r8⟩ := o1.slN HNW.out; have U7 := Lib.hid u2; have S8 := Lib.hid s8; clear o1 u2 s8 r8))
          have b7 : Hid (w7.heap[w2.heap.size]? = some (.cells #[.slice a1 k c1, .slice (some ⟨b, off, none⟩) m c2] 25 (0, 0))) := (U7.out.block _ (lt_of_block hbv.out) (fun h => h)).trans hbv.out
          have p1 := cell_of b7.out 1
          have cd7 : w7.cell? ⟨b, off + l, none⟩ = some (.int .i64 (pl : Int)) := (World.cell?_of_block (U7.out.block b (by have := szv.out; omega) (fun h => h))).trans cdv.out
          have hgq : ∀ wz, Calls Try.prog 19 #[.int .i64 (pl : Int)] wz fun e w' => e = .returned (.int .i64 (l : Int)) ∧ wz = w' := fun wz => by rw [← HPG2.out]; exact group_any pl wz (by omega)
          clear q0 q1 cd cu fu
          by_cases hw0 : nw = 0
          · subst hw0
            go_quiet ((go_at_call 19; exact Calls.quiet_of_same ((hgq _).mono fun _ _ ⟨h, hw⟩ => ⟨h, hw.symm⟩)))
            go_wp2
            go_roundw
            case rel => exact ⟨l + 1, by omega, by go_num, (HR2.out.of_block (U7.out.block _ (by have := szv.out; omega) (fun h => h))).of_block rfl, (HU2.out.step U7.out (fun _ _ h => h.elim)).drewN _⟩
            case measure => simp [intOf]; omega
          · obtain ⟨jn, hjn⟩ : ∃ jn, nw = jn + 1 := ⟨nw - 1, by omega⟩
            obtain ⟨b8, off8, hab8, hb8, hc8⟩ := S8.out.i.cell (by omega)
            subst hab8
            have hz := HLA.out (by omega)
            rw [show nw - 1 = jn by omega] at hz
            obtain ⟨z, hzz⟩ : ∃ z, W.getD jn 0 = z := ⟨_, rfl⟩
            rw [hzz] at hz
            have c8' : w7.cell? ⟨b8, off8 + jn, none⟩ = some (.int .i64 z) := by rw [← hzz]; exact hc8 jn (by omega)
            have hdec : decide ((pl : Int) < z) = false := decide_eq_false (by omega)
            have hdec' : ¬ (pl : Int) < z := by omega
            have ej : (nw : Int) - 1 = (jn : Int) := by omega
            have ewj : IntKind.i64.wrap (jn : Int) = (jn : Int) := wrap_i64_nat jn (by omega)
            have hji : (jn : Int) < (nw : Int) := by omega
            have hj' : jn < nw := by omega
            have ek : decide (0 < nw) = true := decide_eq_true (by omega)
            have ek' : 0 < nw := by omega
            clear hjn hz hzz hc8 hw0
            go_quiet ((go_at_call 19; exact Calls.quiet_of_same ((hgq _).mono fun _ _ ⟨h, hw⟩ => ⟨h, hw.symm⟩)))
            go_wp2
            go_roundw
            case rel => exact ⟨l + 1, by omega, by go_num, (HR2.out.of_block (U7.out.block _ (by have := szv.out; omega) (fun h => h))).of_block rfl, (HU2.out.step U7.out (fun _ _ h => h.elim)).drewN _⟩
            case measure => simp [intOf]; omega
        · obtain rfl : l = m := by omega
          have e : P.take l = P := List.take_of_length_le (by have := HMm.out; omega)
          rw [e] at HR
          clear e q0
          go_wp2
          clear q1
          obtain ⟨wk, hwk⟩ : ∃ wk : World, wk = wr := ⟨_, rfl⟩
          rw [← hwk]
          rw [← hwk] at HR HQ
          have UK : Hid (Upd noBlock w wk) := UM.out.step HQ.out (fun i hi h => by unfold oneBlock at h; have := U1.out.size; have := U2.out.size; omega)
          clear hwk bp
          go_loopw [15] (fun i wr => ∃ t : Nat, t ≤ n ∧ i = .int .i64 (t : Int) ∧ Hid (wk = wr)) (fun i _ => n - (intOf i).toNat)
          case atStart => exact ⟨0, Nat.zero_le _, rfl, rfl⟩
          case round =>
            obtain ⟨t, ht, rfl, HW⟩ := hrel
            obtain rfl := HW.out
            clear HW
            by_cases t0 : t < n
            · have cu := HR.out.cell t0
              have hcn := HF.out.cnt t t0
              have ht64 : t ≤ 9223372036854775807 := by omega
              rcases hcn with hcn | ⟨hcn, hcn2⟩
              · rw [hcn] at cu
                have cu' : wk.cell? ⟨w2.heap.size + 1, t, none⟩ = some (.int .i64 1) := cu
                clear cu hcn
                go_wp2_with fail
                go_roundw
                case rel => exact ⟨t + 1, by omega, by go_num, (by first | exact rfl | exact trivial)⟩
                case measure => simp [intOf]; omega
              · rw [hcn] at cu
                have cu' : wk.cell? ⟨w2.heap.size + 1, t, none⟩ = some (.int .i64 0) := cu
                clear cu hcn
                by_cases e2 : t + 2 = n
                · have e3 : (n : Int) - 2 = (t : Int) := by omega
                  clear hcn2 e2
                  go_wp2_with fail
                  go_roundw
                  case rel => exact ⟨t + 1, by omega, by go_num, (by first | exact rfl | exact trivial)⟩
                  case measure => simp [intOf]; omega
                · have e3 : ((t : Int) == (n : Int) - 2) = false := beq_eq_false_iff_ne.2 (by omega)
                  obtain ⟨rfl, hg1⟩ : s = true ∧ grp t = 1 := by
                    rcases hcn2 with h | h
                    · exact absurd h e2
                    · exact h
                  have HG := Lib.hid hg1
                  clear hcn2 e2 hg1
                  go_wp2_with (go_at_call 19; refine (group_any t _ ht64).mono ?_; rintro e w' ⟨rfl, rfl⟩; rw [HG.out])
                  go_roundw
                  case rel => exact ⟨t + 1, by omega, by go_num, (by first | exact rfl | exact trivial)⟩
                  case measure => simp [intOf]; omega
            · obtain rfl : t = n := by omega
              go_wp2_with fail
              go_ret
              exact ⟨rfl, UK.out⟩

set_option maxRecDepth 100000 in
set_option maxHeartbeats 3200000 in
theorem apart_big_good (n : Nat) (s : Bool) (p : Int) (w : World) (h1 : 4 ≤ n) (h2 : n ≤ 64) (h3 : n % 4 = 0) (hp : 1152921504606846976 ≤ p) :
    Calls Try.prog 6 #[.int .i64 (n : Int), .bool s, .int .i64 p] w fun e w' => e = .returned (.bool true) ∧ Upd noBlock w w' := by
  have HO := Lib.hid (fun w => of_in n s w h1 h2 h3)
  have HF := Lib.hid (apart_of n s h1 h2 h3)
  have HPG := Lib.hid (dl_pages s (n - 3) (by omega))
  have hD : (dl s (n - 3)).length ≤ 61 := by have := dl_len s (n - 3); omega
  have hPn : (parL s n).length ≤ 2 := by unfold parL; split <;> simp
  have hmk := run_make_row' (P := Try.prog) 23 3 (.int .i64 0) 8 Try.underlying23 (by kernel_rfl) rfl .i64 .i64 n (by omega) (by omega)
  have hge : decide ((0 : Int) ≤ p) = true := decide_eq_true (by omega)
  have hlt : decide (p < 1152921504606846976) = false := decide_eq_false (by omega)
  have hnn : decide (p < 0) = false := decide_eq_false (by omega)
  generalize dl s (n - 3) = D at *
  generalize parL s n = P at *
  obtain ⟨nd, hn⟩ : ∃ nd, D.length = nd := ⟨_, rfl⟩
  obtain ⟨m, hm⟩ : ∃ m, P.length = m := ⟨_, rfl⟩
  rw [hn] at hD
  rw [hm] at hPn
  have HNn := Lib.hid hn
  have HMm := Lib.hid hm
  have HM3 := Lib.hid h3
  clear hn hm h3
  go_enter Try.func6, Try.ntmps6
  go_wp2_with (first | (go_at_call 10; refine (speaks7_any _).mono ?_; rintro e w1 ⟨rfl, u1⟩; have U1 := Lib.hid u1; clear u1) | (go_at_call 11; ((with_reducible refine (HO.out _).mono ?_); rintro e w2 ⟨v1, v2, rfl, o1, o2, u2⟩; obtain ⟨a1, c1, rfl, s1, r1⟩ := o1.slN HNn.out; obtain ⟨a2, c2, rfl, s2, r2⟩ := o2.slN HMm.out; have U2 := Lib.hid u2; have S1 := Lib.hid s1; have S2 := Lib.hid s2; clear u2 s1 s2 r1 r2 o1 o2)))
  obtain ⟨wb, hwb⟩ : ∃ wb, wb = (w2.alloc (.cells #[.slice a1 nd c1, .slice a2 m c2] 25)).alloc (.cells (madeCells #[.int .i64 0] n) 3) := ⟨_, rfl⟩
  have B1 : Hid (wb.heap[w2.heap.size]? = some (.cells #[.slice a1 nd c1, .slice a2 m c2] 25 (0, 0))) := by rw [hwb]; exact block_alloc (heap_alloc_new w2 _) _
  have UU : Hid (wb.rowIs (w2.heap.size + 1) 3 n (fun i => .int .i64 (((D.take 0).count (i : Int) : Nat) : Int))) := by
    rw [hwb]
    have := World.rowIs_made (w2.alloc (.cells #[.slice a1 nd c1, .slice a2 m c2] 25)) (.int .i64 0) n 3
    rw [World.size_alloc] at this
    exact this.congr fun i _ => by simp
  have UB : Hid (Upd noBlock w2 wb) := by rw [hwb]; exact ((Upd.refl _ _).alloc _).alloc _
  have SB1 : Hid (Sl wb w1.heap.size w2.heap.size a1 nd D) := S1.out.grow UB.out (Nat.le_refl _)
  have SB2 : Hid (Sl wb w1.heap.size w2.heap.size a2 m P) := S2.out.grow UB.out (Nat.le_refl _)
  have zb : w2.heap.size + 2 ≤ wb.heap.size := by rw [hwb]; simp
  rw [← hwb]
  clear hwb S1 S2 hmk
  go_loopw [12] (fun i wr => ∃ k : Nat, k ≤ nd ∧ i = .int .i64 (k : Int) ∧ Hid (wr.rowIs (w2.heap.size + 1) 3 n (fun i => .int .i64 (((D.take k).count (i : Int) : Nat) : Int))) ∧ Hid (Upd (oneBlock (w2.heap.size + 1)) wb wr)) (fun i _ => nd - (intOf i).toNat)
  case atStart => exact ⟨0, Nat.zero_le _, rfl, UU, Upd.refl _ _⟩
  case round =>
    clear UU
    obtain ⟨k, hk, rfl, HR, HU⟩ := hrel
    have bp : Hid (wr.heap[w2.heap.size]? = some (.cells #[.slice a1 nd c1, .slice a2 m c2] 25 (0, 0))) := (HU.out.block _ (by omega) (fun h => by unfold oneBlock at h; omega)).trans B1.out
    have q0 := cell_of bp.out 0
    have q1 := cell_of bp.out 1
    have i1 := (SB1.out.upd HU.out (by omega) (fun g _ h1 h => by unfold oneBlock at h; omega)).i
    by_cases h0 : k < nd
    · have hl := HNn.out
      obtain ⟨pk, hpk, hpn⟩ := HF.out.d k (by omega)
      obtain ⟨b, off, hab, hb, hc⟩ := i1.cell (by omega)
      subst hab
      have cd : wr.cell? ⟨b, off + k, none⟩ = some (.int .i64 (pk : Int)) := by rw [← hpk]; exact hc k h0
      have cu := HR.out.cell hpn
      have fu := HR.out.frozen pk
      have hcnt : (D.take k).count (pk : Int) ≤ 64 := by
        have h := List.count_le_length (a := (pk : Int)) (l := D.take k)
        rw [List.length_take] at h
        omega
      have HR2 := Lib.hid (usedRow HR.out pk)
      have HT := Lib.hid (take_snoc D k (by omega))
      have HPK := Lib.hid hpk
      have HU2 := Lib.hid (HU.out.setCell (p := ⟨w2.heap.size + 1, pk, none⟩) (.inl rfl) (.int .i64 ((((D.take k).count (pk : Int) : Nat) : Int) + 1)))
      obtain ⟨cn, hcn⟩ : ∃ cn, (D.take k).count (pk : Int) = cn := ⟨_, rfl⟩
      rw [hcn] at cu hcnt HR2 HU2
      have nb : ¬ b = w2.heap.size + 1 := by omega
      have nb2 : ¬ w2.heap.size = w2.heap.size + 1 := by omega
      by_cases hk0 : k = 0
      · subst hk0
        have e0 : ((0 : Nat) : Int) = 0 := rfl
        rw [e0]
        rw [Nat.add_zero] at cd
        clear hc hpk hcn HR hl i1 e0
        go_wp2
        go_quiet (fail)
        go_wp2
        go_roundw
        case rel => exact ⟨1, by omega, by go_num, by rw [HT.out, HPK.out]; exact HR2.out.of_block rfl, HU2.out.drewN _⟩
        case measure => simp [intOf]; omega
      · obtain ⟨j, hj⟩ : ∃ j, k = j + 1 := ⟨k - 1, by omega⟩
        obtain ⟨pj, hpj, hpjn⟩ := HF.out.d j (by omega)
        have hinc := HF.out.inc j (by omega)
        rw [← hj, hpj, hpk] at hinc
        have hdec : decide (pk ≤ pj) = false := decide_eq_false (by omega)
        have cj : wr.cell? ⟨b, off + j, none⟩ = some (.int .i64 (pj : Int)) := by rw [← hpj]; exact hc j (by omega)
        have ej : (k : Int) - 1 = (j : Int) := by omega
        have ek : decide (0 < k) = true := decide_eq_true (by omega)
        have ek' : 0 < k := by omega
        have hj' : j < nd := by omega
        have hji : (j : Int) < (nd : Int) := by omega
        have hj0 : ¬ (j : Int) < 0 := by omega
        have ewj : IntKind.i64.wrap (j : Int) = (j : Int) := wrap_i64_nat j (by omega)
        clear hj hc hpk hpj hcn HR hl i1 hk0 hinc
        go_wp2
        go_quiet (fail)
        go_wp2
        go_roundw
        case rel => exact ⟨k + 1, by omega, by go_num, by rw [HT.out, HPK.out]; exact HR2.out.of_block rfl, HU2.out.drewN _⟩
        case measure => simp [intOf]; omega
    · obtain rfl : k = nd := by omega
      have e : D.take k = D := List.take_of_length_le (by have := HNn.out; omega)
      rw [e] at HR
      have SC1 := Lib.hid (SB1.out.upd HU.out (by omega) (fun g _ h1 h => by unfold oneBlock at h; omega))
      have SC2 := Lib.hid (SB2.out.upd HU.out (by omega) (fun g _ h1 h => by unfold oneBlock at h; omega))
      have zc : wb.heap.size ≤ wr.heap.size := HU.out.size
      clear i1 e
      go_wp2
      clear q0 q1
      obtain ⟨wm, hwm⟩ : ∃ wm : World, wm = wr := ⟨_, rfl⟩
      rw [← hwm]
      rw [← hwm] at HR SC1 SC2 HU zc
      have bpm : Hid (wm.heap[w2.heap.size]? = some (.cells #[.slice a1 k c1, .slice a2 m c2] 25 (0, 0))) := by rw [hwm]; exact bp.out
      have UM : Hid (Upd noBlock w wm) := ((U1.out.trans U2.out).trans UB.out).step HU.out (fun i hi h => by unfold oneBlock at h; have := U1.out.size; have := U2.out.size; omega)
      clear hwm bp wr
      have HR0 : Hid (wm.rowIs (w2.heap.size + 1) 3 n (fun i => .int .i64 (((D ++ P.take 0).count (i : Int) : Nat) : Int))) := by rw [List.take_zero, List.append_nil]; exact HR.out
      clear HR
      go_loopw [13] (fun i wr => ∃ l : Nat, l ≤ m ∧ i = .int .i64 (l : Int) ∧ Hid (wr.rowIs (w2.heap.size + 1) 3 n (fun i => .int .i64 (((D ++ P.take l).count (i : Int) : Nat) : Int))) ∧ Hid (Upd (oneBlock (w2.heap.size + 1)) wm wr)) (fun i _ => m - (intOf i).toNat)
      case atStart => exact ⟨0, Nat.zero_le _, rfl, HR0, Upd.refl _ _⟩
      case round =>
        clear HR0
        obtain ⟨l, hl, rfl, HR, HQ⟩ := hrel
        have bp : Hid (wr.heap[w2.heap.size]? = some (.cells #[.slice a1 k c1, .slice a2 m c2] 25 (0, 0))) := (HQ.out.block _ (by omega) (fun h => by unfold oneBlock at h; omega)).trans bpm.out
        have q0 := cell_of bp.out 0
        have q1 := cell_of bp.out 1
        have hzr : wm.heap.size ≤ wr.heap.size := HQ.out.size
        by_cases l0 : l < m
        · have i1 := Lib.hid (SC1.out.upd HQ.out (by omega) (fun g _ h1 h => by unfold oneBlock at h; omega)).i
          have i2 := (SC2.out.upd HQ.out (by omega) (fun g _ h1 h => by unfold oneBlock at h; omega)).i
          have hlm := HMm.out
          obtain ⟨pl, hpl, hpn, hpg⟩ := HF.out.p l (by omega)
          obtain ⟨b, off, hab, hb, hc⟩ := i2.cell (by omega)
          subst hab
          have cd : wr.cell? ⟨b, off + l, none⟩ = some (.int .i64 (pl : Int)) := by rw [← hpl]; exact hc l l0
          have cu := HR.out.cell hpn
          have fu := HR.out.frozen pl
          have hcnt : (D ++ P.take l).count (pl : Int) ≤ 64 := by
            have h := List.count_le_length (a := (pl : Int)) (l := D ++ P.take l)
            rw [List.length_append, List.length_take, HNn.out] at h
            omega
          have hr2 := usedRow HR.out pl
          rw [List.append_assoc, ← hpl, ← take_snoc P l (by omega), hpl] at hr2
          have HR2 := Lib.hid hr2
          have HPK := Lib.hid hpl
          have HPG2 := Lib.hid hpg
          obtain ⟨cn, hcn⟩ : ∃ cn, (D ++ P.take l).count (pl : Int) = cn := ⟨_, rfl⟩
          rw [hcn] at cu hcnt HR2
          have HU2 := Lib.hid (HQ.out.setCell (p := ⟨w2.heap.size + 1, pl, none⟩) (.inl rfl) (.int .i64 ((cn : Int) + 1)))
          have nb : ¬ b = w2.heap.size + 1 := by omega
          have nb2 : ¬ w2.heap.size = w2.heap.size + 1 := by omega
          obtain ⟨W, hW⟩ : ∃ W, ml (l : Int) D = W := ⟨_, rfl⟩
          obtain ⟨nw, hnw⟩ : ∃ nw, W.length = nw := ⟨_, rfl⟩
          have HWW := Lib.hid hW
          have HNW := Lib.hid hnw
          have hlast := HF.out.last l (by omega)
          rw [hW, hnw, hpl] at hlast
          have HLA := Lib.hid hlast
          have hnwl : nw ≤ 61 := by
            have := ml_len (l : Int) D D.length
            rw [List.take_of_length_le (Nat.le_refl _), hW, hnw, HNn.out] at this
            omega
          clear hc hpl hcn HR hlm i2 hpg hr2 hW hnw hlast
          obtain ⟨wv, hwv⟩ : ∃ wv, wv = wr.setCell ⟨w2.heap.size + 1, pl, none⟩ (.int .i64 ((cn : Int) + 1)) := ⟨_, rfl⟩
          have hi1 : Hid (Ints wv w2.heap.size a1 k D) := by rw [hwv]; exact i1.out.keep fun g hg hgl => Below.heap_setCell _ _ _ _ (by show ¬ g = w2.heap.size + 1; omega)
          have hbv : Hid (wv.heap[w2.heap.size]? = some (.cells #[.slice a1 k c1, .slice (some ⟨b, off, none⟩) m c2] 25 (0, 0))) := by rw [hwv]; exact block_set_other bp.out nb2 _
          have cdv : Hid (wv.cell? ⟨b, off + l, none⟩ = some (.int .i64 (pl : Int))) := by rw [hwv]; exact (World.cell?_of_block (Below.heap_setCell _ _ _ _ (by show ¬ b = w2.heap.size + 1; exact nb))).trans cd
          rw [← hwv] at HR2 HU2
          have szv : Hid (wv.heap.size = wr.heap.size) := by rw [hwv]; show _ = _; simp [World.setCell]
          have HWV := Lib.hid hwv
          clear hwv i1
          go_wp2_with (go_at_call 15; rw [← HWV.out]; ((with_reducible refine (members_any a1 k c1 _ _ D (l : Int) wv hi1.out (by have := szv.out; omega) HPG.out (by omega)).mono ?_); rintro e w7 ⟨v, rfl, o1, u2⟩; rw [HWW.out] at o1; obtain ⟨a8, c8, rfl, s8, r8⟩ := o1.slN HNW.out; have U7 := Lib.hid u2; have S8 := Lib.hid s8; clear o1 u2 s8 r8))
          have b7 : Hid (w7.heap[w2.heap.size]? = some (.cells #[.slice a1 k c1, .slice (some ⟨b, off, none⟩) m c2] 25 (0, 0))) := (U7.out.block _ (lt_of_block hbv.out) (fun h => h)).trans hbv.out
          have p1 := cell_of b7.out 1
          have cd7 : w7.cell? ⟨b, off + l, none⟩ = some (.int .i64 (pl : Int)) := (World.cell?_of_block (U7.out.block b (by have := szv.out; omega) (fun h => h))).trans cdv.out
          have hgq : ∀ wz, Calls Try.prog 19 #[.int .i64 (pl : Int)] wz fun e w' => e = .returned (.int .i64 (l : Int)) ∧ wz = w' := fun wz => by rw [← HPG2.out]; exact group_any pl wz (by omega)
          clear q0 q1 cd cu fu
          by_cases hw0 : nw = 0
          · subst hw0
            go_quiet ((go_at_call 19; exact Calls.quiet_of_same ((hgq _).mono fun _ _ ⟨h, hw⟩ => ⟨h, hw.symm⟩)))
            go_wp2
            go_roundw
            case rel => exact ⟨l + 1, by omega, by go_num, (HR2.out.of_block (U7.out.block _ (by have := szv.out; omega) (fun h => h))).of_block rfl, (HU2.out.step U7.out (fun _ _ h => h.elim)).drewN _⟩
            case measure => simp [intOf]; omega
          · obtain ⟨jn, hjn⟩ : ∃ jn, nw = jn + 1 := ⟨nw - 1, by omega⟩
            obtain ⟨b8, off8, hab8, hb8, hc8⟩ := S8.out.i.cell (by omega)
            subst hab8
            have hz := HLA.out (by omega)
            rw [show nw - 1 = jn by omega] at hz
            obtain ⟨z, hzz⟩ : ∃ z, W.getD jn 0 = z := ⟨_, rfl⟩
            rw [hzz] at hz
            have c8' : w7.cell? ⟨b8, off8 + jn, none⟩ = some (.int .i64 z) := by rw [← hzz]; exact hc8 jn (by omega)
            have hdec : decide ((pl : Int) < z) = false := decide_eq_false (by omega)
            have hdec' : ¬ (pl : Int) < z := by omega
            have ej : (nw : Int) - 1 = (jn : Int) := by omega
            have ewj : IntKind.i64.wrap (jn : Int) = (jn : Int) := wrap_i64_nat jn (by omega)
            have hji : (jn : Int) < (nw : Int) := by omega
            have hj' : jn < nw := by omega
            have ek : decide (0 < nw) = true := decide_eq_true (by omega)
            have ek' : 0 < nw := by omega
            clear hjn hz hzz hc8 hw0
            go_quiet ((go_at_call 19; exact Calls.quiet_of_same ((hgq _).mono fun _ _ ⟨h, hw⟩ => ⟨h, hw.symm⟩)))
            go_wp2
            go_roundw
            case rel => exact ⟨l + 1, by omega, by go_num, (HR2.out.of_block (U7.out.block _ (by have := szv.out; omega) (fun h => h))).of_block rfl, (HU2.out.step U7.out (fun _ _ h => h.elim)).drewN _⟩
            case measure => simp [intOf]; omega
        · obtain rfl : l = m := by omega
          have e : P.take l = P := List.take_of_length_le (by have := HMm.out; omega)
          rw [e] at HR
          clear e q0
          go_wp2
          clear q1
          obtain ⟨wk, hwk⟩ : ∃ wk : World, wk = wr := ⟨_, rfl⟩
          rw [← hwk]
          rw [← hwk] at HR HQ
          have UK : Hid (Upd noBlock w wk) := UM.out.step HQ.out (fun i hi h => by unfold oneBlock at h; have := U1.out.size; have := U2.out.size; omega)
          clear hwk bp
          go_loopw [15] (fun i wr => ∃ t : Nat, t ≤ n ∧ i = .int .i64 (t : Int) ∧ Hid (wk = wr)) (fun i _ => n - (intOf i).toNat)
          case atStart => exact ⟨0, Nat.zero_le _, rfl, rfl⟩
          case round =>
            obtain ⟨t, ht, rfl, HW⟩ := hrel
            obtain rfl := HW.out
            clear HW
            by_cases t0 : t < n
            · have cu := HR.out.cell t0
              have hcn := HF.out.cnt t t0
              have ht64 : t ≤ 9223372036854775807 := by omega
              rcases hcn with hcn | ⟨hcn, hcn2⟩
              · rw [hcn] at cu
                have cu' : wk.cell? ⟨w2.heap.size + 1, t, none⟩ = some (.int .i64 1) := cu
                clear cu hcn
                go_wp2_with fail
                go_roundw
                case rel => exact ⟨t + 1, by omega, by go_num, (by first | exact rfl | exact trivial)⟩
                case measure => simp [intOf]; omega
              · rw [hcn] at cu
                have cu' : wk.cell? ⟨w2.heap.size + 1, t, none⟩ = some (.int .i64 0) := cu
                clear cu hcn
                by_cases e2 : t + 2 = n
                · have e3 : (n : Int) - 2 = (t : Int) := by omega
                  clear hcn2 e2
                  go_wp2_with fail
                  go_roundw
                  case rel => exact ⟨t + 1, by omega, by go_num, (by first | exact rfl | exact trivial)⟩
                  case measure => simp [intOf]; omega
                · have e3 : ((t : Int) == (n : Int) - 2) = false := beq_eq_false_iff_ne.2 (by omega)
                  obtain ⟨rfl, hg1⟩ : s = true ∧ grp t = 1 := by
                    rcases hcn2 with h | h
                    · exact absurd h e2
                    · exact h
                  have HG := Lib.hid hg1
                  clear hcn2 e2 hg1
                  go_wp2_with (go_at_call 19; refine (group_any t _ ht64).mono ?_; rintro e w' ⟨rfl, rfl⟩; rw [HG.out])
                  go_roundw
                  case rel => exact ⟨t + 1, by omega, by go_num, (by first | exact rfl | exact trivial)⟩
                  case measure => simp [intOf]; omega
            · obtain rfl : t = n := by omega
              go_wp2_with fail
              go_ret
              exact ⟨rfl, UK.out⟩

theorem parityApart_walk (x : Int) (s : Bool) (p : Int) (w : World) (_ : (Lit.int .i64 x).wf = true) (_ : (Lit.int .i64 p).wf = true) :
    Calls Try.prog 6 #[.int .i64 x, .bool s, .int .i64 p] w fun e w' => e = .returned (.bool true) ∧ Below w.heap.size w w' := by
  refine Calls.mono ?_ fun _ _ (h : _ ∧ Upd noBlock w _) => ⟨h.1, h.2.below (fun _ _ h => h)⟩
  cases hx : okX x
  · have hb := okX_no hx
    by_cases h0 : p < 0
    · exact apart_neg_bad x s p w hb h0
    · by_cases h1 : 1152921504606846976 ≤ p
      · exact apart_big_bad x s p w hb h1
      · obtain ⟨q, rfl⟩ : ∃ q : Nat, p = q := ⟨p.toNat, by omega⟩
        exact apart_mid_bad x s q w hb (by omega)
  · obtain ⟨n, rfl, h4, h64, hm⟩ := okX_yes hx
    by_cases h0 : p < 0
    · exact apart_neg_good n s p w h4 h64 hm h0
    · by_cases h1 : 1152921504606846976 ≤ p
      · exact apart_big_good n s p w h4 h64 hm h1
      · obtain ⟨q, rfl⟩ : ∃ q : Nat, p = q := ⟨p.toNat, by omega⟩
        exact apart_mid_good n s q w h4 h64 hm (by omega)
end Go.Proofs.Ytkjajmhanhbkdaa
