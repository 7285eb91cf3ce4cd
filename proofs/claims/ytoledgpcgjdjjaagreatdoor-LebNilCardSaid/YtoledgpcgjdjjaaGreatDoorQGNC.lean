import Derived.Test.YtoledgpcgjdjjaaGreatDoorQGIh
import Derived.Test.YtoledgpcgjdjjaaGreatDoorQGZa
import Derived.Test.YtoledgpcgjdjjaaGreatDoorQGIc
import Derived.Test.YtoledgpcgjdjjaaGreatDoorQGHu
import Derived.Deep.RegionWith
import Derived.Test.YtoledgpcgjdjjaaGreatDoorQGPc
import Derived.Test.YtoledgpcgjdjjaaGreatDoorQShelf
import Derived.Test.YtoledgpcgjdjjaaGreatDoorRows
import Derived.Test.YtoledgpcgjdjjaaGreatDoorQApp
import Derived.WalkKit
import Derived.Lib.Hide
import Derived.WalkSpells
import Derived.WalkLawsBesides
import Derived.BigQuiet
import Derived.BigRegion
import Derived.Deep.OwnRows
import Derived.Deep.QuietTactic
import Derived.OwnWalk
import Derived.Test.YtoledgpcgjdjjaaGreatDoorQSt
import Derived.Test.YtoledgpcgjdjjaaGreatDoorQGBy
/- Numbers of the field in memory; gap. -/
namespace Go.Proofs.YtoledgpcgjdjjaaGreatDoor
open Go.RowKit Pm F
set_option linter.unusedVariables false

theorem al_val (n : Nat) : (al n).1 = Gfm.pw n := rfl
theorem mul_F (B c t : Nat) (k : Int) (x y : F) (w : World) (h : MadeB B w c t k) :
    Calls Tryz.prog 233 #[.pointer (some ⟨c, 5, none⟩), .int .i64 (x.1 : Int), .int .i64 (y.1 : Int)] w fun e w' =>
      e = .returned (.int .i64 ((x * y).1 : Int)) ∧ MadeB B w' c t k ∧ Upd (oneBlock c) w w' :=
  (mul_B B c t k _ _ w h).mono fun e w' ⟨h1, h2, h3⟩ => ⟨by rw [h1, low_nat _ x.2, low_nat _ y.2]; rfl, h2, h3⟩
theorem exp_F (B c t : Nat) (k a : Int) (w : World) (h : MadeB B w c t k) :
    Calls Tryz.prog 195 #[.pointer (some ⟨c, 5, none⟩), .int .i64 a] w fun e w' =>
      e = .returned (.int .i64 ((alI a).1 : Int)) ∧ Upd noBlock w w' := exp_B B c t k a w h
theorem log_F (B c t : Nat) (k : Int) (x : F) (w : World) (h : MadeB B w c t k) (hx : x ≠ 0) :
    Calls Tryz.prog 224 #[.pointer (some ⟨c, 5, none⟩), .int .i64 (x.1 : Int)] w fun e w' =>
      e = .returned (.tuple #[.int .i64 (Gfm.lg x.1 : Nat), .bool true]) ∧ Upd noBlock w w' := by
  have hl := low_nat x.1 x.2
  have h0 := val_pos hx
  exact (log_B B c t k _ w h (by rw [hl]; omega)).mono fun e w' ⟨h1, h3⟩ => ⟨by rw [h1, hl], h3⟩
theorem log_F0 (c : Nat) (w : World) :
    Calls Tryz.prog 224 #[.pointer (some ⟨c, 5, none⟩), .int .i64 0] w fun e w' => e = .returned (.tuple #[.int .i64 0, .bool false]) ∧ w = w' := log_zero c 0 w rfl
theorem inv_F (B c t : Nat) (k : Int) (x : F) (w : World) (h : MadeB B w c t k) (hx : x ≠ 0) :
    Calls Tryz.prog 231 #[.pointer (some ⟨c, 5, none⟩), .int .i64 (x.1 : Int)] w fun e w' =>
      ∃ y : F, x * y = 1 ∧ e = .returned (.tuple #[.int .i64 (y.1 : Int), .bool true]) ∧ Upd noBlock w w' := by
  have hl := low_nat x.1 x.2
  have h0 := val_pos hx
  refine (inv_B B c t k _ w h (by rw [hl]; omega)).mono fun e w' ⟨h1, h3⟩ => ?_
  rw [hl] at h1
  refine ⟨al (8191 - Gfm.lg x.1), ?_, ?_, h3⟩
  · have hlt := Gfm.lg_lt x.1
    have e : al (Gfm.lg x.1) * al (8191 - Gfm.lg x.1) = 1 := by rw [← al_add, show Gfm.lg x.1 + (8191 - Gfm.lg x.1) = 8191 by omega, al_order]
    exact (congrArg (fun y => y * al (8191 - Gfm.lg x.1)) (lg_al hx)).symm.trans e
  · rw [h1]
    have e : invN x.1 = (al (8191 - Gfm.lg x.1)).1 := by unfold invN; rw [if_neg (by omega), al_val]
    rw [e]
theorem xor_F (x y : F) : bits .xor .i64 (x.1 : Int) (y.1 : Int) = ((x + y).1 : Int) := i64_xor_nat _ _ (by have := x.2; omega) (by have := y.2; omega)
theorem OwnI.head {w : World} {B : Nat} {v : Value} {xs : List Int} (h : OwnI w B v xs) (h0 : 0 < xs.length) (k : Nat) (hk : k ≤ xs.length) :
    ∃ g cap, v = .slice (some ⟨g, 0, none⟩) xs.length cap ∧ xs.length ≤ cap ∧ B ≤ g ∧ OwnI w B (.slice (some ⟨g, 0, none⟩) k cap) (xs.take k) := by
  obtain ⟨hl, h⟩ := h
  rcases h with ⟨_, h2⟩ | ⟨g, cap, cur, rfl, hb, hg, hnc, hcm, hsz, htake⟩
  · omega
  · have hk' : (xs.take k).length = k := by rw [List.length_take]; omega
    unfold OwnI
    rw [hk']
    refine ⟨g, cap, rfl, hnc, hb, by simp [vals]; omega, .inr ⟨g, cap, cur, rfl, hb, hg, by omega, hcm, hsz, ?_⟩⟩
    have e : cur.toList.take (k * 1) = (cur.toList.take (xs.length * 1)).take k := by rw [List.take_take]; congr 1; omega
    rw [e, htake]
    simp [vals, List.map_take]
theorem OwnI.far {w w' : World} {B c : Nat} {v : Value} {xs : List Int} (h : OwnI w B v xs) (hc : c < B) (hu : Upd (oneBlock c) w w') : OwnI w' B v xs := h.upd hu fun g hg e => by have := h.lt g hg; have e' : g = c := e; omega
set_option maxRecDepth 100000 in
set_option maxHeartbeats 3200000 in
theorem gap_any (c t : Nat) (k : Int) (C S : Nat → F) (N n B : Nat) (v v' : Value) (w : World) (h : MadeB B w c t k) (hr : OwnI w B v (il N C)) (hs : OwnI w B v' (il (n + 1) S)) (hN0 : 0 < N) (hN : N ≤ 1000) (hn : n ≤ 1000) (hC : ∀ i, N ≤ i → C i = 0) :
    Calls Tryz.prog 230 #[.pointer (some ⟨c, 0, none⟩), v, v'] w fun e w' => e = .returned (.int .i64 ((cv C S n).1 : Int)) ∧ MadeB B w' c t k ∧ Upd (oneBlock c) w w' := by
  have hcB := h.lt
  have HM := Lib.hid h
  obtain ⟨mn, hmn⟩ : ∃ mn, min N (n + 1) = mn := ⟨_, rfl⟩
  have HG := Lib.hid (gp_all C S n N hC)
  rw [hmn] at HG
  have HGS : Hid (∀ j, gp C S n (j + 1) = gp C S n j + C j * S (n - j)) := fun j => rfl
  have HG0 : Hid (gp C S n 0 = 0) := rfl
  have HMUL := Lib.hid (fun x y W hW => mul_F B c t k x y W hW)
  have HR := Lib.hid hr
  have HS := Lib.hid hs
  obtain ⟨g, cap, rfl, hg, _, _, _, _⟩ := hr.cells (by rw [il_length]; exact hN0)
  obtain ⟨g', cap', rfl, hg', _, _, _, _⟩ := hs.cells (by rw [il_length]; omega)
  rw [il_length] at HR
  rw [il_length] at HS
  rw [il_length, il_length]
  have hmin : min (N : Int) ((n + 1 : Nat) : Int) = (mn : Int) := by omega
  have hm1 : mn ≤ N := by omega
  have hm2 : mn ≤ n + 1 := by omega
  have HMN : Hid (min N (n + 1) = mn) := hmn
  clear h hr hs hmn
  go_enter Tryz.func230, Tryz.ntmps230
  obtain ⟨n1, hn1⟩ : ∃ n1, n + 1 = n1 := ⟨_, rfl⟩
  have HN1 : Hid (n + 1 = n1) := hn1
  rw [hn1] at HS hmin hm2 ⊢
  have hn1b : n1 ≤ 1001 := by omega
  clear hn1
  go_wp2
  go_loopw [7, 14] (fun s i wr => ∃ j : Nat, j ≤ mn ∧ i = .int .i64 (j : Int) ∧ s = .int .i64 ((gp C S n j).1 : Int) ∧ Hid (MadeB B wr c t k) ∧ Hid (Upd (oneBlock c) w wr)) (fun _ i _ => mn - (intOf i).toNat)
  case atStart => exact ⟨0, Nat.zero_le _, rfl, rfl, HM, Upd.refl _ _⟩
  case round =>
    clear HM
    obtain ⟨j, hj, rfl, rfl, HM, HU⟩ := hrel
    by_cases h0 : j < mn
    · have HMU := Lib.hid (fun W hW => HMUL.out (C j) (S (n - j)) W hW)
      have HX := xor_F (gp C S n j) (C j * S (n - j))
      have HNX := Lib.hid (HGS.out j)
      obtain ⟨_, _, e1, _, _, q1, _, _⟩ := (HR.out.far hcB HU.out).cells (by rw [il_length]; exact hN0)
      obtain ⟨_, _, e2, _, _, q2, _, _⟩ := (HS.out.far hcB HU.out).cells (by rw [il_length]; have := HN1.out; omega)
      rw [il_length] at e1 e2 q1 q2
      cases e1
      cases e2
      have p1 := q1 j (by omega)
      have p2 := q2 (n - j) (by have := HN1.out; omega)
      rw [il_getD N C j (by omega)] at p1
      rw [il_getD n1 S (n - j) (by have := HN1.out; omega)] at p2
      clear q1 q2
      have d1 : wr.drew.cell? ⟨g, j, none⟩ = _ := p1
      have d2 : wr.drew.cell? ⟨g', n - j, none⟩ = _ := p2
      obtain ⟨m, hm⟩ : ∃ m, n - j = m := ⟨_, rfl⟩
      have hw1 : IntKind.i64.wrap ((n1 : Int) - 1) = (n1 : Int) - 1 := by rw [IntKind.wrap_i64]; omega
      have hw2 : IntKind.i64.wrap ((n1 : Int) - 1 - (j : Int)) = (m : Int) := by have := HN1.out; rw [IntKind.wrap_i64]; omega
      have hmn1 : m < n1 := by have := HN1.out; omega
      have hjN : j < N := by omega
      have hM1 : Hid (MadeB B wr.drew c t k) := HM.out.grow ((Upd.refl noBlock wr).drew)
      rw [hm] at HMU HX HNX p2 d2
      clear hm
      generalize gp C S n j = s0 at *
      go_wp2_with fail
      go_region_with (go_at_call 233; (with_reducible refine (HMU.out _ hM1.out).mono ?_); rintro e w2 ⟨rfl, hm2, hu2⟩; have M2 := Lib.hid hm2; have U2 := Lib.hid hu2; clear hm2 hu2)
      all_goals
        go_wp2
        go_roundw
        case rel => exact ⟨j + 1, by omega, by go_num, congrArg (fun z : F => Value.int .i64 (z.1 : Int)) HNX.out.symm, M2, HU.out.drew.trans U2.out⟩
        case measure => simp [intOf]; omega
    · obtain rfl : j = mn := by omega
      go_wp2
      go_ret
      exact ⟨congrArg (fun z : F => Ending.returned (Value.int .i64 (z.1 : Int))) HG.out, HM.out, HU.out⟩
end Go.Proofs.YtoledgpcgjdjjaaGreatDoor

/- The exponents of a remainder. -/
namespace Go.Proofs.YtoledgpcgjdjjaaGreatDoor
open Go.RowKit Pm
set_option linter.unusedVariables false

theorem top_at {x t : Nat} (h1 : 2 ^ t ≤ x) (h2 : x < 2 ^ (t + 1)) : x.testBit t = true ∧ ∀ i, t < i → x.testBit i = false := by
  refine ⟨?_, fun i hi => Nat.testBit_lt_two_pow (Nat.lt_of_lt_of_le h2 (Nat.pow_le_pow_right (by omega) hi))⟩
  rw [Nat.testBit_eq_decide_div_mod_eq]
  have h3 : x / 2 ^ t = 1 := by
    rw [Nat.pow_succ] at h2
    exact Nat.le_antisymm (Nat.le_of_lt_succ ((Nat.div_lt_iff_lt_mul (Nat.two_pow_pos t)).2 (by omega))) ((Nat.le_div_iff_mul_le (Nat.two_pow_pos t)).2 (by omega))
  rw [h3]; rfl
theorem first_high {r : Rm} (hr : r.Ok) (h : r.h ≠ 0) : ∃ n : Nat, n < 64 ∧ ((64 : Int) - (Lib.bitLen r.h : Int) = ((n : Nat) : Int)) ∧ rb r n = true ∧ ∀ j, j < n → rb r j = false := by
  obtain ⟨t, ht, e, l, u⟩ := bitLen_spec r.h (by omega) (by rw [two64]; exact hr.1)
  obtain ⟨k1, k2⟩ := top_at l u
  refine ⟨63 - t, by omega, by rw [e]; omega, ?_, fun j hj => ?_⟩
  · rw [rb_lo _ _ (by omega), show 63 - (63 - t) = t by omega]; exact k1
  · rw [rb_lo _ _ (by omega)]; exact k2 _ (by omega)
theorem first_low {r : Rm} (hr : r.Ok) (h : r.h = 0) (hl : r.l ≠ 0) : ∃ n : Nat, 64 ≤ n ∧ n < 128 ∧ (64 : Int) - (Lib.bitLen r.l : Int) = ((n - 64 : Nat) : Int) ∧ rb r n = true ∧ ∀ j, j < n → rb r j = false := by
  obtain ⟨t, ht, e, l, u⟩ := bitLen_spec r.l (by omega) (by rw [two64]; exact hr.2)
  obtain ⟨k1, k2⟩ := top_at l u
  refine ⟨127 - t, by omega, by omega, by rw [e]; omega, ?_, fun j hj => ?_⟩
  · rw [rb_mid _ _ (by omega) (by omega), show 127 - (127 - t) = t by omega]; exact k1
  · by_cases h1 : j < 64
    · rw [rb_lo _ _ h1, h]; exact Nat.zero_testBit _
    · rw [rb_mid _ _ h1 (by omega)]; exact k2 _ (by omega)
def exq (r : Rm) (d : Nat) : Nat → List Int | 0 => [] | q + 1 => if rb r q then exq r d q ++ [((d - 1 - q : Nat) : Int)] else exq r d q
theorem exq_length (r : Rm) (d q : Nat) : (exq r d q).length ≤ q := by
  induction q with
  | zero => exact Nat.le_refl _
  | succ q ih =>
    unfold exq
    split
    · rw [List.length_append]; simp; exact ih
    · omega
theorem exq_skip (r : Rm) (d q m : Nat) (h : ∀ j, q ≤ j → j < q + m → rb r j = false) : exq r d (q + m) = exq r d q := by
  induction m with
  | zero => rfl
  | succ m ih =>
    show (if rb r (q + m) then _ else exq r d (q + m)) = _
    rw [h (q + m) (by omega) (by omega), ih fun j h1 h2 => h j h1 (by omega)]
    rfl
def Clr (r cur : Rm) (q : Nat) : Prop := cur.Ok ∧ ∀ j, j < 128 → rb cur j = (decide (q ≤ j) && rb r j)
theorem Clr.next {r cur : Rm} {d q n : Nat} (h : Clr r cur q) (hn : n < 128) (hb : rb cur n = true) (hf : ∀ j, j < n → rb cur j = false) :
    Clr r (cur.plus (Rm.bit n)) (n + 1) ∧ exq r d (n + 1) = exq r d q ++ [((d - 1 - n : Nat) : Int)] ∧ q ≤ n ∧ rb r n = true := by
  have hq : q ≤ n ∧ rb r n = true := by
    have := h.2 n hn
    rw [hb] at this
    have := (Bool.and_eq_true_iff ..).1 this.symm
    exact ⟨of_decide_eq_true this.1, this.2⟩
  refine ⟨⟨h.1.plus (Rm.bit_ok _ hn), fun j hj => ?_⟩, ?_, hq⟩
  · rw [rb_plus, rb_bit _ _ hn]
    by_cases e : j = n
    · rw [e, hb, decide_eq_true rfl, decide_eq_false (by omega)]; rfl
    · rw [decide_eq_false e]
      by_cases hl : j < n
      · rw [hf j hl, decide_eq_false (by omega)]; rfl
      · rw [h.2 j hj, decide_eq_true (show q ≤ j by omega), decide_eq_true (show n + 1 ≤ j by omega)]
        cases rb r j <;> rfl
  · show (if rb r n then exq r d n ++ _ else _) = _
    rw [hq.2, if_pos rfl]
    congr 1
    obtain ⟨m, rfl⟩ : ∃ m, n = q + m := ⟨n - q, by omega⟩
    refine exq_skip r d q m fun j h1 h2 => ?_
    have := h.2 j (by omega)
    rw [hf j h2, decide_eq_true h1] at this
    exact this.symm
theorem Clr.stop {r cur : Rm} {d q : Nat} (h : Clr r cur q) (hz : cur = Rm.zero) (hd : d ≤ 128) (hr : ∀ j, d ≤ j → rb r j = false) (hq : q ≤ d) : exq r d d = exq r d q := by
  obtain ⟨m, rfl⟩ : ∃ m, d = q + m := ⟨d - q, by omega⟩
  refine exq_skip r _ q m fun j h1 h2 => ?_
  have := h.2 j (by omega)
  rw [hz, rb_zero, decide_eq_true h1] at this
  exact this.symm
def slen (v : Value) : Nat := match v with | .slice _ n _ => n | _ => 0
theorem OwnI.slen {w : World} {B : Nat} {v : Value} {xs : List Int} (h : OwnI w B v xs) : slen v = xs.length := by
  obtain ⟨a, c, rfl, _⟩ := h.sl; rfl
set_option maxRecDepth 100000 in
set_option maxHeartbeats 3200000 in
theorem exponents_any (r : Rm) (d : Nat) (w : World) (hr : r.Ok) (hd : d ≤ 120) (hz : ∀ j, d ≤ j → rb r j = false) :
    Calls Tryz.prog 235 #[r.agg, .int .i64 (d : Int)] w fun e w' => ∃ v, e = .returned v ∧ OwnI w' w.heap.size v (exq r d d) ∧ Upd noBlock w w' := by
  obtain ⟨i0, hi0, hz0, hz1, hz2⟩ := intPartsI
  have HC0 : Hid (Clr r r 0) := ⟨hr, fun j _ => by rw [decide_eq_true (Nat.zero_le _), Bool.true_and]⟩
  have HZ := Lib.hid hz
  clear hr hz
  unfold Rm.agg
  go_enter Tryz.func235, Tryz.ntmps235
  go_wp2_with fail
  obtain ⟨wa, hwa⟩ : ∃ wa, wa = w.alloc (.cells #[.int .u64 (r.h : Int), .int .u64 (r.l : Int)] 174) := ⟨_, rfl⟩
  have U0 : Hid (Upd noBlock w wa) := by rw [hwa]; exact (Upd.refl _ _).alloc _
  have B0 : Hid (RB wa w.heap.size r) := by rw [hwa]; exact heap_alloc_new w _
  rw [← hwa]
  clear hwa
  go_loopw [5] (fun v wr => ∃ (q : Nat) (cur : Rm), q ≤ d ∧ Hid (OwnI wr (w.heap.size + 1) v (exq r d q)) ∧ Hid (RB wr w.heap.size cur) ∧ Hid (Clr r cur q) ∧ Hid (Upd noBlock w wr)) (fun v _ => 200 - slen v)
  case atStart => exact ⟨0, _, Nat.zero_le _, OwnI.nil _ _, B0, HC0, U0⟩
  case round =>
    clear B0 HC0 U0
    obtain ⟨q, cur, hq, HO, HB, HC, HU⟩ := hrel
    have hok := HC.out.1
    by_cases hzero : cur.h = 0 ∧ cur.l = 0
    · obtain ⟨ch, cl⟩ := cur
      obtain ⟨rfl, rfl⟩ : ch = 0 ∧ cl = 0 := hzero
      have HE := Lib.hid (HC.out.stop rfl (by omega) HZ.out hq)
      have k1 := HB.out.h
      have k2 := HB.out.l
      go_wp2
      go_ret
      exact ⟨_, rfl, by rw [HE.out]; exact HO.out.more (Nat.le_succ _), HU.out⟩
    · have key : ∃ n : Nat, n < 128 ∧ rb cur n = true ∧ (∀ j, j < n → rb cur j = false) ∧ ((cur.h ≠ 0 ∧ (64 : Int) - (Lib.bitLen cur.h : Int) = (n : Int)) ∨ (cur.h = 0 ∧ cur.l ≠ 0 ∧ 64 ≤ n ∧ (64 : Int) - (Lib.bitLen cur.l : Int) = ((n - 64 : Nat) : Int))) := by
        by_cases hh : cur.h = 0
        · obtain ⟨n, h1, h2, h3, h4, h5⟩ := first_low hok hh (fun e => hzero ⟨hh, e⟩)
          exact ⟨n, h2, h4, h5, .inr ⟨hh, fun e => hzero ⟨hh, e⟩, h1, h3⟩⟩
        · obtain ⟨n, h1, h2, h3, h4⟩ := first_high hok hh
          exact ⟨n, by omega, h3, h4, .inl ⟨hh, h2⟩⟩
      obtain ⟨n, hn, hbn, hbf, hcase⟩ := key
      obtain ⟨HC2, hex, hqn, hrn⟩ := HC.out.next (d := d) hn hbn hbf
      have hnd : n < d := by
        by_cases h : n < d
        · exact h
        · rw [HZ.out n (by omega)] at hrn; cases hrn
      have HC3 := Lib.hid HC2
      have HNX := Lib.hid hex
      have HLEN : Hid ((exq r d q).length ≤ 120) := by have := exq_length r d q; show _ ≤ _; omega
      have hbok := Rm.bit_ok n hn
      have HBIT := Lib.hid (fun W => bitAt_any n W hn)
      have HPL := Lib.hid (fun W => plus_any cur (Rm.bit n) W hok hbok)
      have HLZ : Hid (∀ (x : Nat) (v : Int) W, x < 18446744073709551616 → (64 : Int) - (Lib.bitLen x : Int) = v → Calls Tryz.prog 255 #[.int .u64 (x : Int)] W fun e w' => e = .returned (.int .i64 v) ∧ W = w') := fun x v W h hv => (Tryz.bits_LeadingZeros64 (x : Int) W (by omega) (by omega)).mono fun e w' ⟨h1, h2⟩ => ⟨by rw [h1, Int.toNat_natCast, hv], h2.symm⟩
      have hw1 : IntKind.i64.wrap ((d : Int) - 1) = (d : Int) - 1 := by rw [IntKind.wrap_i64]; omega
      obtain ⟨z, hz⟩ : ∃ z : Nat, d - 1 - n = z := ⟨_, rfl⟩
      have hw2 : IntKind.i64.wrap ((d : Int) - 1 - (n : Int)) = (z : Int) := by rw [IntKind.wrap_i64]; omega
      rw [hz] at HNX
      generalize exq r d q = L at *
      generalize hrr : cur.plus (Rm.bit n) = nxt at *
      have HO2 := Lib.hid (HO.out.grow ((Upd.refl noBlock wr).alloc (.cells #[.int .i64 (z : Int)] 3)))
      have HU2 := Lib.hid (HU.out.alloc (.cells #[.int .i64 (z : Int)] 3))
      have HB2 := Lib.hid (block_alloc HB.out (.cells #[.int .i64 (z : Int)] 3))
      have HI := Lib.hid (ints_one wr (z : Int))
      have hbase := HU.out.size
      have hlt := lt_of_block HB.out
      have HAFT : Hid (∀ w3 own, (wr.alloc (.cells #[.int .i64 (z : Int)] 3)).grownBy w3 own → (∀ i, own = some i → w.heap.size + 1 ≤ i) → RB w3 w.heap.size cur ∧ Upd noBlock w w3) := fun w3 own hg ho =>
        ⟨(hg.block w.heap.size (by rw [World.size_alloc]; omega) (fun e => by have := ho _ e.symm; omega)).trans HB2.out, upd_of_grown HU2.out hg (fun i hi => .inr (by have := ho i hi; omega))⟩
      have HST : Hid (∀ W v, OwnI W (w.heap.size + 1) v (L ++ [(z : Int)]) → RB W w.heap.size cur → Upd noBlock w W → ∀ W2, Upd noBlock W W2 → OwnI ((W2.setCell ⟨w.heap.size, 0, none⟩ (.int .u64 (nxt.h : Int))).setCell ⟨w.heap.size, 1, none⟩ (.int .u64 (nxt.l : Int))) (w.heap.size + 1) v (L ++ [(z : Int)]) ∧ RB ((W2.setCell ⟨w.heap.size, 0, none⟩ (.int .u64 (nxt.h : Int))).setCell ⟨w.heap.size, 1, none⟩ (.int .u64 (nxt.l : Int))) w.heap.size nxt ∧ Upd noBlock w ((W2.setCell ⟨w.heap.size, 0, none⟩ (.int .u64 (nxt.h : Int))).setCell ⟨w.heap.size, 1, none⟩ (.int .u64 (nxt.l : Int)))) := fun W v hO hB hU W2 h2 =>
        ⟨hO.upd ((((h2.one : Upd (oneBlock w.heap.size) W W2).setCell (p := ⟨w.heap.size, 0, none⟩) (.inl rfl) _)).setCell (p := ⟨w.heap.size, 1, none⟩) (.inl rfl) _) (fun g hg e => by have := hO.lt g hg; have e' : g = w.heap.size := e; omega), (hB.grow h2).set _, ((hU.trans h2).setCell (p := ⟨w.heap.size, 0, none⟩) (.inr (Nat.le_refl _)) _).setCell (p := ⟨w.heap.size, 1, none⟩) (.inr (Nat.le_refl _)) _⟩
      have k1 := HB.out.h
      have k2 := HB.out.l
      clear hzero hbn hbf HC2 hex hz hrn
      rcases hcase with ⟨hh, hl⟩ | ⟨hh, hl0, hn64, hl⟩
      · have hc1 : ((cur.h : Int) == 0) = false := beq_eq_false_iff_ne.2 (by omega)
        have HL1 := Lib.hid (fun W => HLZ.out cur.h _ W hok.1 hl)
        clear hl HLZ
        go_wp2_with (first
          | (go_at_call 255; (with_reducible refine (HL1.out _).mono ?_); rintro e w' ⟨rfl, rfl⟩)
          | (at_builtin; refine wpList_append_ints _ rfl (.tmp 21) (.tmp 26) _ rfl (w.heap.size + 1) 3 i0 _ Tryz.underlying57 hi0 hz0 hz1 hz2 rfl _ L.length (vals L) rfl HO2.out (wr.heap.size + 1) (some ⟨wr.heap.size, 0, none⟩) 1 1 [(z : Int)] rfl HI.out (by have := HLEN.out; simp only [maxLen]; omega) (by have := HLEN.out; omega) (by simp; omega) ?_; intro v3 w3 hown3 hg3 _; have F3 := Lib.hid (HAFT.out _ _ hg3 (fun i hi => HO2.out.lt i hi)); have O3 := Lib.hid (OwnI.snoc rfl hown3); have b1 := F3.out.1.h; have b2 := F3.out.1.l; have d1 : w3.drew.cell? ⟨w.heap.size, 0, none⟩ = _ := F3.out.1.h; have d2 : w3.drew.cell? ⟨w.heap.size, 1, none⟩ = _ := F3.out.1.l; have e1 : w3.drew.frozen? ⟨w.heap.size, 0, none⟩ = false := F3.out.1.f 0; have e2 : w3.drew.frozen? ⟨w.heap.size, 1, none⟩ = false := F3.out.1.f 1; have HRB := Lib.hid (fun W (hW : Upd noBlock w3 W) => F3.out.1.grow hW); clear hown3 hg3))
        unfold Rm.agg at HBIT HPL
        go_region_with (first
          | (go_at_call 149; refine (HBIT.out _).mono ?_; rintro e w4 ⟨rfl, u4⟩; have v4 := ((Upd.refl noBlock w3).drew).trans u4; have k2' := (HRB.out w4 v4).h; have k3' := (HRB.out w4 v4).l)
          | (go_at_call 148; refine (HPL.out _).mono ?_; rintro e w5 ⟨rfl, u5⟩; have v5 := v4.trans u5; have k6 := (HRB.out w5 v5).h; have k7 := (HRB.out w5 v5).l; have k8 := (HRB.out w5 v5).f 0; have k9 := (HRB.out w5 v5).f 1))
        all_goals
          have hfin := HST.out _ _ O3.out F3.out.1 F3.out.2 w5 v5
          have G1 := Lib.hid hfin.1
          have G2 := Lib.hid hfin.2.1
          have G3 := Lib.hid hfin.2.2
          have HSL := Lib.hid G1.out.slen
          have HSV := Lib.hid HO.out.slen
          clear hfin
          go_wp2
          go_roundw
          case rel => exact ⟨n + 1, nxt, by omega, by rw [HNX.out]; exact G1, G2, HC3, G3⟩
          case measure => rw [HSL.out, HSV.out, List.length_append]; have := HLEN.out; show 200 - (_ + 1) < _; omega
      · have hc1 : ((cur.l : Int) == 0) = false := beq_eq_false_iff_ne.2 (by omega)
        have HL1 : Hid (∀ W, Calls Tryz.prog 255 #[.int .u64 0] W fun e w' => e = .returned (.int .i64 64) ∧ W = w') := fun W => HLZ.out 0 64 W (by omega) (by decide)
        have HL2 := Lib.hid (fun W => HLZ.out cur.l _ W hok.2 hl)
        have hw3 : IntKind.i64.wrap ((64 : Int) + ((n - 64 : Nat) : Int)) = (n : Int) := by rw [IntKind.wrap_i64]; omega
        have hh0 : (cur.h : Int) = 0 := by omega
        rw [hh0] at k1
        clear hl HLZ hh0 hh
        go_wp2_with (first
          | (go_at_call 255; (with_reducible refine (HL1.out _).mono ?_); rintro e w' ⟨rfl, rfl⟩)
          | (go_at_call 255; (with_reducible refine (HL2.out _).mono ?_); rintro e w' ⟨rfl, rfl⟩)
          | (at_builtin; refine wpList_append_ints _ rfl (.tmp 21) (.tmp 26) _ rfl (w.heap.size + 1) 3 i0 _ Tryz.underlying57 hi0 hz0 hz1 hz2 rfl _ L.length (vals L) rfl HO2.out (wr.heap.size + 1) (some ⟨wr.heap.size, 0, none⟩) 1 1 [(z : Int)] rfl HI.out (by have := HLEN.out; simp only [maxLen]; omega) (by have := HLEN.out; omega) (by simp; omega) ?_; intro v3 w3 hown3 hg3 _; have F3 := Lib.hid (HAFT.out _ _ hg3 (fun i hi => HO2.out.lt i hi)); have O3 := Lib.hid (OwnI.snoc rfl hown3); have b1 := F3.out.1.h; have b2 := F3.out.1.l; have d1 : w3.drew.cell? ⟨w.heap.size, 0, none⟩ = _ := F3.out.1.h; have d2 : w3.drew.cell? ⟨w.heap.size, 1, none⟩ = _ := F3.out.1.l; have e1 : w3.drew.frozen? ⟨w.heap.size, 0, none⟩ = false := F3.out.1.f 0; have e2 : w3.drew.frozen? ⟨w.heap.size, 1, none⟩ = false := F3.out.1.f 1; have HRB := Lib.hid (fun W (hW : Upd noBlock w3 W) => F3.out.1.grow hW); clear hown3 hg3))
        unfold Rm.agg at HBIT HPL
        go_region_with (first
          | (go_at_call 149; refine (HBIT.out _).mono ?_; rintro e w4 ⟨rfl, u4⟩; have v4 := ((Upd.refl noBlock w3).drew).trans u4; have k2' := (HRB.out w4 v4).h; have k3' := (HRB.out w4 v4).l)
          | (go_at_call 148; refine (HPL.out _).mono ?_; rintro e w5 ⟨rfl, u5⟩; have v5 := v4.trans u5; have k6 := (HRB.out w5 v5).h; have k7 := (HRB.out w5 v5).l; have k8 := (HRB.out w5 v5).f 0; have k9 := (HRB.out w5 v5).f 1))
        all_goals
          have hfin := HST.out _ _ O3.out F3.out.1 F3.out.2 w5 v5
          have G1 := Lib.hid hfin.1
          have G2 := Lib.hid hfin.2.1
          have G3 := Lib.hid hfin.2.2
          have HSL := Lib.hid G1.out.slen
          have HSV := Lib.hid HO.out.slen
          clear hfin
          go_wp2
          go_roundw
          case rel => exact ⟨n + 1, nxt, by omega, by rw [HNX.out]; exact G1, G2, HC3, G3⟩
          case measure => rw [HSL.out, HSV.out, List.length_append]; have := HLEN.out; show 200 - (_ + 1) < _; omega
end Go.Proofs.YtoledgpcgjdjjaaGreatDoor

/- trimmed, bits, isRoot. -/
namespace Go.Proofs.YtoledgpcgjdjjaaGreatDoor
open Go.RowKit Pm F
set_option linter.unusedVariables false

set_option maxRecDepth 100000 in
set_option maxHeartbeats 1600000 in
theorem trimmed_any (C : Nat → F) (N B : Nat) (v : Value) (w : World) (hr : OwnI w B v (il N C)) (hN0 : 0 < N) (hN : N ≤ 2000) (hC0 : C 0 ≠ 0) :
    Calls Tryz.prog 234 #[v] w fun e w' => ∃ m u, e = .returned u ∧ 1 ≤ m ∧ m ≤ N ∧ C (m - 1) ≠ 0 ∧ (∀ i, m ≤ i → i < N → C i = 0) ∧ OwnI w' B u (il m C) ∧ Upd noBlock w w' := by
  obtain ⟨i0, hi0, hz0, hz1, hz2⟩ := intPartsI
  have HR := Lib.hid hr
  have HC0 := Lib.hid hC0
  obtain ⟨g, cap, rfl, hg, _, _, _, _⟩ := hr.cells (by rw [il_length]; exact hN0)
  have hcap := own_cap hr
  rw [il_length] at HR hcap
  rw [il_length]
  have HHEAD : Hid (∀ W k, Upd noBlock w W → 0 < k → k ≤ N → OwnI W B (.slice (some ⟨g, 0, none⟩) k cap) (il k C)) := fun W k hW h0 hk => by
    obtain ⟨_, _, e, _, _, ho⟩ := (HR.out.grow hW).head (by rw [il_length]; exact hN0) k (by rw [il_length]; exact hk)
    rw [il_length] at e
    cases e
    rw [il_take N k C hk] at ho
    exact ho
  have HSL : Hid (∀ (n k : Nat) (w : World), k ≤ n → n ≤ cap → 0 < n → (Instr.sliceAt 57 (.slice (some ⟨g, 0, none⟩) n cap) none (some (.int .i64 (k : Int))) none).run Tryz.prog w = .ok (.slice (some ⟨g, 0, none⟩) k cap) w) := fun n k w hk hn h0 => by
    have := Doc.run_slice_lo w 57 3 i0 Tryz.underlying57 hi0 (some ⟨g, 0, none⟩) n cap k hk hn
    rw [if_neg (by omega)] at this
    exact this
  clear hr hC0
  go_enter Tryz.func234, Tryz.ntmps234
  go_wp2
  go_loopw [0] (fun v wr => ∃ m : Nat, 1 ≤ m ∧ m ≤ N ∧ v = .slice (some ⟨g, 0, none⟩) m cap ∧ Hid (∀ i, m ≤ i → i < N → C i = 0) ∧ Hid (Upd noBlock w wr)) (fun v _ => slen v)
  case atStart => exact ⟨N, hN0, Nat.le_refl _, rfl, fun i h1 h2 => absurd h2 (by omega), Upd.refl _ _⟩
  case round =>
    obtain ⟨m, hm1, hm2, rfl, HZ, HU⟩ := hrel
    obtain ⟨_, _, e1, _, _, q1, _, _⟩ := (HHEAD.out wr m HU.out hm1 hm2).cells (by rw [il_length]; exact hm1)
    rw [il_length] at e1 q1
    cases e1
    obtain ⟨q, rfl⟩ : ∃ q, m = q + 1 := ⟨m - 1, by omega⟩
    have p1 := q1 q (by omega)
    rw [il_getD _ C q (by omega)] at p1
    obtain ⟨n1, hn1⟩ : ∃ n1, q + 1 = n1 := ⟨_, rfl⟩
    have hw1 : IntKind.i64.wrap ((n1 : Int) - 1) = (q : Int) := by rw [IntKind.wrap_i64]; omega
    have hn0 : 0 < n1 := by omega
    have hq1 : q < n1 := by omega
    have hn2 : n1 ≤ 2000 := by omega
    clear q1
    by_cases hz : C q = 0
    · have hq0 : 0 < q := by
        rcases Nat.eq_zero_or_pos q with h | h
        · exact absurd (h ▸ hz) HC0.out
        · exact h
      have p2 : wr.cell? ⟨g, q, none⟩ = some (.int .i64 0) := by rw [p1, hz]; rfl
      have hsl := HSL.out n1 q
      have hsl2 := fun w => hsl w (by omega) (by omega) hn0
      clear p1 hsl
      rw [hn1]
      go_wp2
      go_roundw
      case rel => exact ⟨q, hq0, by omega, rfl, fun i h1 h2 => by
        by_cases e : i = q
        · rw [e, hz]
        · exact HZ.out i (by omega) h2, HU⟩
      case measure => show q < n1; omega
    · have hx : ¬ (C q).1 = 0 := fun e => hz (F.ext e)
      have HFIN := Lib.hid (HHEAD.out wr (q + 1) HU.out hm1 hm2)
      have HZ1 := Lib.hid hz
      obtain ⟨x, hxe⟩ : ∃ x, (C q).1 = x := ⟨_, rfl⟩
      rw [hxe] at p1 hx
      have hx0 : ((x : Int) == 0) = false := beq_eq_false_iff_ne.2 (by omega)
      rw [hn1] at HFIN ⊢
      clear hxe hz
      go_wp2
      go_ret
      exact ⟨n1, _, rfl, by omega, by omega, by rw [← hn1, Nat.add_sub_cancel]; exact HZ1.out, by rw [← hn1]; exact HZ.out, HFIN.out, HU.out⟩
set_option maxRecDepth 100000 in
set_option maxHeartbeats 1600000 in
theorem bits_any (B c t k : Nat) (w : World) (h : MadeB B w c t (k : Int)) (hk : k ≤ 256) (ht8 : t ≤ 8) :
    Calls Tryz.prog 172 #[.pointer (some ⟨c, 0, none⟩)] w fun e w' => e = .returned (.int .i64 ((8 * k + 13 * t : Nat) : Int)) ∧ Upd noBlock w w' := by
  have HM := Lib.hid h
  obtain ⟨d, hd⟩ : ∃ d, 13 * t = d := ⟨_, rfl⟩
  have k1 : w.drew.cell? ⟨c, 1, none⟩ = some (.int .i64 (k : Int)) := h.made.k
  have k2 : w.drew.cell? ⟨c, 11, none⟩ = some (.int .i64 (d : Int)) := by rw [← hd]; exact h.made.deg
  have k3 : w.cell? ⟨c, 1, none⟩ = some (.int .i64 (k : Int)) := h.made.k
  have k4 : w.cell? ⟨c, 11, none⟩ = some (.int .i64 (d : Int)) := by rw [← hd]; exact h.made.deg
  have hw1 : IntKind.i64.wrap (8 * (k : Int)) = 8 * (k : Int) := by rw [IntKind.wrap_i64]; omega
  have hw2 : IntKind.i64.wrap (8 * (k : Int) + (d : Int)) = ((8 * k + d : Nat) : Int) := by rw [IntKind.wrap_i64]; omega
  rw [hd]
  generalize 8 * k + d = z at *
  clear h hd
  go_enter Tryz.func172, Tryz.ntmps172
  go_wp2
  go_quiet (fail)
  go_wp2
  go_ret
  exact ⟨rfl, (Upd.refl noBlock w).drewN _⟩
def irow (N : Nat) (g : Nat → Int) : List Int := (List.range N).map g
theorem irow_length (N : Nat) (g : Nat → Int) : (irow N g).length = N := by simp [irow]
theorem irow_getD (N : Nat) (g : Nat → Int) (i : Nat) (h : i < N) : (irow N g).getD i 0 = g i := by simp [irow, List.getD_eq_getElem?_getD, h]
theorem irow_congr {N : Nat} {f g : Nat → Int} (h : ∀ p, p < N → f p = g p) : irow N f = irow N g := List.map_congr_left fun p hp => h p (List.mem_range.1 hp)
theorem irow_set (N : Nat) (g : Nat → Int) (q : Nat) (x : Int) : (irow N g).set q x = irow N fun i => if i = q then x else g i := by
  apply List.ext_getElem
  · rw [List.length_set, irow_length, irow_length]
  · intro p h1 h2
    rw [List.getElem_set]
    simp only [irow, List.getElem_map, List.getElem_range]
    split
    · rename_i e; rw [if_pos e.symm]
    · rename_i e; rw [if_neg (fun h => e h.symm)]
theorem lgI_zero : lgI 0 = -1 := if_pos rfl
theorem lgI_ne {x : F} (h : x ≠ 0) : lgI x = (Gfm.lg x.1 : Int) := if_neg h
theorem rtq_step (C : Nat → F) (p j : Nat) (h : C j ≠ 0) : rtq C p (j + 1) = rtq C p j + alI (lgI (C j) - (j : Int) * (p : Int)) := by
  show rtq C p j + C j * alI (-((j : Int) * (p : Int))) = _
  have e : alI (lgI (C j)) = C j := by rw [lgI_ne h, alI_nat]; exact lg_al h
  rw [Int.sub_eq_add_neg, alI_add, e]
theorem rtq_skip (C : Nat → F) (p j : Nat) (h : C j = 0) : rtq C p (j + 1) = rtq C p j := by
  show rtq C p j + C j * alI (-((j : Int) * (p : Int))) = _
  rw [h, zero_mul, add_zero]
set_option maxRecDepth 100000 in
set_option maxHeartbeats 1600000 in
theorem isRoot_any (B c t : Nat) (k : Int) (C : Nat → F) (m p : Nat) (v : Value) (w : World) (h : MadeB B w c t k) (hr : OwnI w B v (irow m fun i => lgI (C i))) (hm0 : 0 < m) (hm : m ≤ 100) (hp : p ≤ 100000) :
    Calls Tryz.prog 237 #[.pointer (some ⟨c, 0, none⟩), v, .int .i64 (p : Int)] w fun e w' => e = .returned (.bool (decide (rtq C p m = 0))) ∧ Upd noBlock w w' := by
  have HM0 := Lib.hid h
  have HR := Lib.hid hr
  obtain ⟨g, cap, rfl, _, _, _, _, _⟩ := hr.cells (by rw [irow_length]; exact hm0)
  rw [irow_length] at HR
  rw [irow_length]
  clear h hr
  go_enter Tryz.func237, Tryz.ntmps237
  go_wp2
  go_loopw [7, 12] (fun s i wr => ∃ j : Nat, j ≤ m ∧ i = .int .i64 (j : Int) ∧ s = .int .i64 ((rtq C p j).1 : Int) ∧ Hid (Upd noBlock w wr)) (fun _ i _ => m - (intOf i).toNat)
  case atStart => exact ⟨0, Nat.zero_le _, rfl, rfl, Upd.refl _ _⟩
  case round =>
    obtain ⟨j, hj, rfl, rfl, HU⟩ := hrel
    by_cases h0 : j < m
    · obtain ⟨_, _, e1, _, _, q1, _, _⟩ := (HR.out.grow HU.out).cells (by rw [irow_length]; exact hm0)
      rw [irow_length] at e1 q1
      cases e1
      have p1 := q1 j h0
      rw [irow_getD _ _ _ h0] at p1
      clear q1
      by_cases hz : C j = 0
      · have HNX := Lib.hid (rtq_skip C p j hz)
        have p2 : wr.cell? ⟨g, j, none⟩ = some (.int .i64 (-1)) := by rw [p1, hz, lgI_zero]
        clear p1 hz
        generalize rtq C p j = s0 at *
        go_wp2
        go_roundw
        case rel => exact ⟨j + 1, by omega, by go_num, congrArg (fun z : F => Value.int .i64 (z.1 : Int)) HNX.out.symm, HU⟩
        case measure => simp [intOf]; omega
      · have HNX := Lib.hid (rtq_step C p j hz)
        have hlg := Gfm.lg_lt (C j).1
        have p2 : wr.cell? ⟨g, j, none⟩ = some (.int .i64 (Gfm.lg (C j).1 : Int)) := by rw [p1, lgI_ne hz]
        rw [lgI_ne hz] at HNX
        obtain ⟨x, hx⟩ : ∃ x : Nat, Gfm.lg (C j).1 = x := ⟨_, rfl⟩
        rw [hx] at HNX p2 hlg
        have hw1 : IntKind.i64.wrap ((j : Int) * (p : Int)) = (j : Int) * (p : Int) := by
          have h1 : (0 : Int) ≤ (j : Int) * (p : Int) := Int.mul_nonneg (by omega) (by omega)
          have h2 : j * p ≤ 100 * 100000 := Nat.mul_le_mul (by omega) hp
          have h3 : (j : Int) * (p : Int) = ((j * p : Nat) : Int) := by rw [Int.natCast_mul]
          rw [IntKind.wrap_i64]; omega
        have hw2 : IntKind.i64.wrap ((x : Int) - (j : Int) * (p : Int)) = (x : Int) - (j : Int) * (p : Int) := by
          have h1 : (0 : Int) ≤ (j : Int) * (p : Int) := Int.mul_nonneg (by omega) (by omega)
          have h2 : j * p ≤ 100 * 100000 := Nat.mul_le_mul (by omega) hp
          have h3 : (j : Int) * (p : Int) = ((j * p : Nat) : Int) := by rw [Int.natCast_mul]
          rw [IntKind.wrap_i64]; omega
        have HX := xor_F (rtq C p j) (alI ((x : Int) - (j : Int) * (p : Int)))
        have HEX := Lib.hid (fun W (hW : Upd noBlock w W) => exp_F B c t k ((x : Int) - (j : Int) * (p : Int)) W (HM0.out.grow hW))
        have hw3 : wrap64 ((x : Int) - (j : Int) * (p : Int)) = (x : Int) - (j : Int) * (p : Int) := by
          rw [← hw2, IntKind.wrap_i64]; unfold wrap64; rw [IntKind.wrap_i64] at hw2; omega
        have hxge : decide ((x : Int) ≥ 0) = true := decide_eq_true (by omega)
        clear p1 hz hx
        generalize rtq C p j = s0 at *
        go_wp2_with (go_at_call 195; (with_reducible refine (HEX.out _ HU.out).mono ?_); rintro e w2 ⟨rfl, hu2⟩; have U2 := Lib.hid (HU.out.trans hu2); clear hu2)
        go_roundw
        case rel => exact ⟨j + 1, by omega, by go_num, congrArg (fun z : F => Value.int .i64 (z.1 : Int)) HNX.out.symm, U2⟩
        case measure => simp [intOf]; omega
    · obtain rfl : j = m := by omega
      have hfin : (((rtq C p j).1 : Int) == 0) = decide (rtq C p j = 0) := by
        by_cases e : rtq C p j = 0
        · rw [decide_eq_true e, e]; rfl
        · rw [decide_eq_false e]
          exact beq_eq_false_iff_ne.2 fun h => e (F.ext (by show (rtq C p j).1 = 0; omega))
      have HF := Lib.hid hfin
      clear hfin
      go_wp2
      go_ret
      exact ⟨congrArg (fun b => Ending.returned (Value.bool b)) HF.out, HU.out⟩
end Go.Proofs.YtoledgpcgjdjjaaGreatDoor

/- The document's text of bits. -/
namespace Go.Proofs.YtoledgpcgjdjjaaGreatDoor
open Go.RowKit Pm

theorem shr_128 : ∀ m : Fin 8, (128 : Int) / 2 ^ m.val = ((2 ^ (7 - m.val) : Nat) : Int) := by decide
end Go.Proofs.YtoledgpcgjdjjaaGreatDoor

/- The pair, the group of a page; two slices of int compared; a slice of int of the call's own; The plan of a block: parity.Of, the document's; The plan of a block, bad numbers too; the document's plan; the members of a group. -/
namespace Go.Proofs.YtoledgpcgjdjjaaGreatDoor.Pr
open Go.RowKit

set_option maxRecDepth 100000 in
theorem pair_low (p : Nat) (w : World) (hp : Hid (p ≤ 9223372036854775807)) (h : p % 4 < 2) :
    Calls Tryz.prog 104 #[.int .i64 (p : Int)] w fun e w' => e = .returned (.tuple #[.int .i64 ((p + 2 : Nat) : Int), .bool false]) ∧ w = w' := by
  have h2 : (p : Int) % 4 < 2 := by omega
  have hw : IntKind.i64.wrap ((p : Int) + 2) = (p : Int) + 2 := by have := hp.out; rw [IntKind.wrap_i64]; omega
  clear h
  go_enter Tryz.func104, Tryz.ntmps104
  go_wp2
  go_ret2
  exact ⟨rfl, rfl⟩
set_option maxRecDepth 100000 in
theorem pair_up (p : Nat) (w : World) (hp : Hid (p ≤ 9223372036854775807)) (h : ¬ p % 4 < 2) :
    Calls Tryz.prog 104 #[.int .i64 (p : Int)] w fun e w' => e = .returned (.tuple #[.int .i64 ((p - 2 : Nat) : Int), .bool true]) ∧ w = w' := by
  have h2 : ¬ (p : Int) % 4 < 2 := by omega
  have h3 : ((p - 2 : Nat) : Int) = (p : Int) - 2 := by omega
  have hw : IntKind.i64.wrap ((p : Int) - 2) = (p : Int) - 2 := by have := hp.out; rw [IntKind.wrap_i64]; omega
  have H3 := Lib.hid h3
  clear h3 h
  go_enter Tryz.func104, Tryz.ntmps104
  go_wp2
  go_ret2
  rw [H3.out]
  exact ⟨rfl, rfl⟩

def grp (p : Nat) : Int := if p % 4 < 2 then 0 else 1
set_option maxRecDepth 100000 in
theorem group_any (p : Nat) (w : World) (hp : p ≤ 9223372036854775807) :
    Calls Tryz.prog 75 #[.int .i64 (p : Int)] w fun e w' => e = .returned (.int .i64 (grp p)) ∧ w = w' := by
  have HP := Lib.hid hp
  clear hp
  by_cases h : p % 4 < 2
  · rw [show grp p = 0 from if_pos h]
    have H := Lib.hid h
    clear h
    go_enter Tryz.func75, Tryz.ntmps75
    go_wp2_with (go_at_call 104; refine (pair_low p _ HP H.out).mono ?_; rintro e w' ⟨rfl, rfl⟩)
    go_ret
    exact ⟨rfl, rfl⟩
  · rw [show grp p = 1 from if_neg h]
    have H := Lib.hid h
    clear h
    go_enter Tryz.func75, Tryz.ntmps75
    go_wp2_with (go_at_call 104; refine (pair_up p _ HP H.out).mono ?_; rintro e w' ⟨rfl, rfl⟩)
    go_ret
    exact ⟨rfl, rfl⟩
theorem Upd.grownOwn {a b c : World} {v : Value} (h : Upd noBlock a b) (g : b.grownBy c v.ownBlock) (hv : ∀ k, v.ownBlock = some k → a.heap.size ≤ k) : Upd noBlock a c :=
  ⟨g.os.trans h.os, g.tape.trans h.tape, g.output.trans h.output, Nat.le_trans h.size g.size, fun i hi hn => (g.block i (Nat.lt_of_lt_of_le hi h.size) (fun e => by have := hv i e.symm; omega)).trans (h.block i hi hn)⟩
def OwnV (w : World) (B : Nat) (v : Value) (xs : List Int) : Prop :=
  w.ownsRow B 3 1 v xs.length (vals xs)
theorem OwnV.sl {w : World} {B : Nat} {v : Value} {xs : List Int} (h : OwnV w B v xs) :
    ∃ a c, v = .slice a xs.length c ∧ Ints w w.heap.size a xs.length xs ∧ xs.length ≤ maxLen ∧ (∀ g, a.map Addr.block = some g → B ≤ g ∧ g < w.heap.size ∧ v.ownBlock = some g ∧ ∃ cs, w.heap[g]? = some (.cells cs 3 (0, 0))) := own_ints h
theorem OwnV.upd {w w' : World} {B : Nat} {v : Value} {xs : List Int} (h : OwnV w B v xs) {R : Nat → Prop} (hu : Upd R w w') (hR : ∀ g, v.ownBlock = some g → ¬ R g) : OwnV w' B v xs := by
  obtain ⟨hl, h⟩ := h
  refine ⟨hl, ?_⟩
  rcases h with ⟨h1, h2⟩ | ⟨g, cap, cur, rfl, hb, hg, r⟩
  · exact .inl ⟨h1, h2⟩
  · exact .inr ⟨g, cap, cur, rfl, hb, (hu.block g (lt_of_block hg) (hR g rfl)).trans hg, r⟩
theorem OwnV.grow {w w' : World} {B : Nat} {v : Value} {xs : List Int} (h : OwnV w B v xs) (hu : Upd noBlock w w') : OwnV w' B v xs := h.upd hu fun _ _ h => h
theorem OwnV.more {w : World} {B B' : Nat} {v : Value} {xs : List Int} (h : OwnV w B v xs) (hB : B' ≤ B) : OwnV w B' v xs := by
  obtain ⟨hl, h⟩ := h
  refine ⟨hl, ?_⟩
  rcases h with ⟨h1, h2⟩ | ⟨g, cap, cur, rfl, hb, hg, r⟩
  · exact .inl ⟨h1, h2⟩
  · exact .inr ⟨g, cap, cur, rfl, Nat.le_trans hB hb, hg, r⟩
theorem OwnV.nil (w : World) (B : Nat) : OwnV w B (.slice none 0 0) [] := World.ownsRow_nil _ _ _ _
theorem OwnV.snoc {w : World} {B : Nat} {v : Value} {xs : List Int} {x : Int} (h : w.ownsRow B 3 1 v (xs.length + 1) (vals xs ++ vals [x])) : OwnV w B v (xs ++ [x]) := by
  unfold OwnV
  have e : (xs ++ [x]).length = xs.length + 1 := by simp
  have e2 : vals (xs ++ [x]) = vals xs ++ vals [x] := by simp [vals]
  rw [e, e2]; exact h
theorem ints_new (w : World) (x : Int) : Ints (w.alloc (.cells #[.int .i64 x] 3)) (w.heap.size + 1) (some ⟨w.heap.size, 0, none⟩) 1 [x] :=
  ⟨rfl, fun _ => ⟨w.heap.size, 0, rfl, by omega, fun j hj => by
    obtain rfl : j = 0 := by omega
    rw [cell_of (heap_alloc_new w _)]; rfl⟩⟩
theorem intParts7 : ∃ i0, Tryz.prog.info? 3 = some i0 ∧ i0.zero = some (.int .i64 0) ∧ i0.size = 1 ∧ i0.bytes = 8 := by
  have intCells : (Tryz.prog.info? 3).map (fun i => (i.zero, i.size, i.bytes)) = some (some (.int .i64 0), 1, 8) := by kernel_rfl
  obtain ⟨i0, h1, h2⟩ := Option.map_eq_some_iff.1 intCells
  simp only [Prod.mk.injEq] at h2
  exact ⟨i0, h1, h2.1, h2.2.1, h2.2.2⟩
end Go.Proofs.YtoledgpcgjdjjaaGreatDoor.Pr
namespace Go.Proofs.YtoledgpcgjdjjaaGreatDoor.Pr
open Go.RowKit

def isData (s : Bool) (p : Nat) : Bool := !s || decide (p % 4 < 2)
def dl (s : Bool) : Nat → List Int
  | 0 => []
  | k + 1 => dl s k ++ (if isData s k = true then [(k : Int)] else [])
theorem dl_len (s : Bool) (k : Nat) : (dl s k).length ≤ k := by
  induction k with
  | zero => exact Nat.le_refl _
  | succ k ih =>
    unfold dl
    rw [List.length_append]
    split
    · simp; omega
    · simp; omega
theorem dl_yes {s : Bool} {k : Nat} (h : isData s k = true) : dl s (k + 1) = dl s k ++ [(k : Int)] := by
  show dl s k ++ _ = _
  rw [if_pos h]
theorem dl_no {s : Bool} {k : Nat} (h : isData s k = false) : dl s (k + 1) = dl s k := by
  show dl s k ++ _ = _
  rw [h, if_neg (by decide), List.append_nil]
theorem own_one (w : World) (x : Int) : OwnV (w.alloc (.cells #[.int .i64 x] 3)) w.heap.size (.slice (some ⟨w.heap.size, 0, none⟩) 1 1) [x] :=
  ⟨rfl, .inr ⟨w.heap.size, 1, #[.int .i64 x], rfl, Nat.le_refl _, heap_alloc_new w _, Nat.le_refl _, by show _ ≤ maxLen; unfold maxLen; simp, rfl, rfl⟩⟩
theorem own_two (w : World) (x y : Int) : OwnV (w.alloc (.cells #[.int .i64 x, .int .i64 y] 3)) w.heap.size (.slice (some ⟨w.heap.size, 0, none⟩) 2 2) [x, y] :=
  ⟨rfl, .inr ⟨w.heap.size, 2, #[.int .i64 x, .int .i64 y], rfl, Nat.le_refl _, heap_alloc_new w _, Nat.le_refl _, by show _ ≤ maxLen; unfold maxLen; simp, rfl, rfl⟩⟩
def parL (s : Bool) (n : Nat) : List Int := if s = true then [(n : Int) - 3] else [(n : Int) - 3, (n : Int) - 1]

theorem ret_plan (w : World) (b : Nat) (v1 v2 : Value) (x : Bool) (tmps : Array Value) (hb : w.heap[b]? = some (.cells #[v1, v2] 91 (0, 0))) (h4 : tmps.getD 4 undef = .pointer (some ⟨b, 0, none⟩)) (h5 : tmps.getD 5 undef = .bool x) :
    (results Tryz.f78 tmps).run Tryz.prog w = .ok (.tuple #[.agg #[v1, v2], .bool x]) w := by
  have c0 : w.cell? ⟨b, 0, none⟩ = some v1 := cell_of hb 0
  have c1 : w.cell? ⟨b, 1, none⟩ = some v2 := cell_of hb 1
  rw [results_cell_tmp rfl, h4, h5]
  simp [go_sem, c0, c1]
theorem of_end (s : Bool) (n : Nat) (w wr : World) (D : List Int) (v v2 : Value) (O : Obj) (hO : OwnV wr (w.heap.size + 1) v D) (hP : wr.heap[w.heap.size]? = some (.cells #[.slice none 0 0, .slice none 0 0] 91 (0, 0)))
    (hU : Upd noBlock w wr) (h2 : OwnV (wr.alloc O) wr.heap.size v2 (parL s n)) :
    (((wr.alloc O).setCell ⟨w.heap.size, 0, none⟩ v).setCell ⟨w.heap.size, 1, none⟩ v2).heap[w.heap.size]? = some (.cells #[v, v2] 91 (0, 0)) ∧
    OwnV (((wr.alloc O).setCell ⟨w.heap.size, 0, none⟩ v).setCell ⟨w.heap.size, 1, none⟩ v2) w.heap.size v D ∧
    OwnV (((wr.alloc O).setCell ⟨w.heap.size, 0, none⟩ v).setCell ⟨w.heap.size, 1, none⟩ v2) w.heap.size v2 (parL s n) ∧
    Upd noBlock w (((wr.alloc O).setCell ⟨w.heap.size, 0, none⟩ v).setCell ⟨w.heap.size, 1, none⟩ v2) := by
  have u1 : Upd (oneBlock w.heap.size) (wr.alloc O) (((wr.alloc O).setCell ⟨w.heap.size, 0, none⟩ v).setCell ⟨w.heap.size, 1, none⟩ v2) := ((Upd.refl (oneBlock w.heap.size) (wr.alloc O)).setCell (p := ⟨w.heap.size, 0, none⟩) (.inl rfl) v).setCell (p := ⟨w.heap.size, 1, none⟩) (.inl rfl) v2
  have hlt := lt_of_block hP
  refine ⟨block_set (block_set (block_alloc hP O) v) v2, ?_, ?_, ?_⟩
  · exact ((hO.grow ((Upd.refl noBlock wr).alloc O)).upd u1 (fun g hg e => by have := (hO.lt g hg).1; unfold oneBlock at e; omega)).more (by omega)
  · exact (h2.upd u1 (fun g hg e => by have := (h2.lt g hg).1; unfold oneBlock at e; omega)).more (by omega)
  · exact ((hU.alloc O).setCell (.inr (Nat.le_refl _)) _).setCell (.inr (Nat.le_refl _)) _

set_option maxRecDepth 100000 in
set_option maxHeartbeats 1600000 in
theorem of_in (n : Nat) (s : Bool) (w : World) (h1 : 4 ≤ n) (h2 : n ≤ 64) (h3 : n % 4 = 0) :
    Calls Tryz.prog 78 #[.int .i64 (n : Int), .bool s] w fun e w' =>
      ∃ v1 v2, e = .returned (.tuple #[.agg #[v1, v2], .bool true]) ∧ OwnV w' w.heap.size v1 (dl s (n - 3)) ∧ OwnV w' w.heap.size v2 (parL s n) ∧ Upd noBlock w w' := by
  obtain ⟨i0, hi0, hz0, hz1, hz2⟩ := intParts7
  have t3 : ((n : Int) % 4 != 0) = false := by rw [bne_eq_false_iff_eq]; omega
  obtain ⟨m, hm⟩ : ∃ m, m = n - 3 := ⟨_, rfl⟩
  have e1 : (n : Int) - 3 = (m : Int) := by omega
  rw [← hm]
  have HE := Lib.hid hm
  have hm64 : m ≤ 61 := by omega
  clear hm h3
  go_enter Tryz.func78, Tryz.ntmps78
  go_wp2
  obtain ⟨w0, hw0⟩ : ∃ w0, w0 = w.alloc (.cells #[.slice none 0 0, .slice none 0 0] 91) := ⟨_, rfl⟩
  have P0 : Hid (w0.heap[w.heap.size]? = some (.cells #[.slice none 0 0, .slice none 0 0] 91 (0, 0))) := by rw [hw0]; exact heap_alloc_new w _
  have U0 : Hid (Upd noBlock w w0) := by rw [hw0]; exact (Upd.refl _ _).alloc _
  have S0 : w.heap.size < w0.heap.size := lt_of_block P0.out
  rw [← hw0]
  clear hw0
  go_loopw [7, 24] (fun v i wr => ∃ k : Nat, k ≤ m ∧ i = .int .i64 (k : Int) ∧ Hid (OwnV wr (w.heap.size + 1) v (dl s k)) ∧ Hid (wr.heap[w.heap.size]? = some (.cells #[.slice none 0 0, .slice none 0 0] 91 (0, 0))) ∧ Hid (Upd noBlock w wr)) (fun _ i _ => m - (intOf i).toNat)
  case atStart => exact ⟨0, Nat.zero_le _, rfl, OwnV.nil _ _, P0, U0⟩
  case round =>
    clear P0 U0 S0
    obtain ⟨k, hk, rfl, HO, HP, HU⟩ := hrel
    by_cases h0 : k < m
    · have HL : Hid ((dl s k).length ≤ 61) := by have := dl_len s k; show _ ≤ 61; omega
      have hbase : w.heap.size + 1 ≤ wr.heap.size := lt_of_block HP.out
      have HO2 := Lib.hid (HO.out.grow ((Upd.refl noBlock wr).alloc (.cells #[.int .i64 (k : Int)] 3)))
      have HP2 := Lib.hid (block_alloc HP.out (.cells #[.int .i64 (k : Int)] 3))
      have HU2 := Lib.hid (HU.out.alloc (.cells #[.int .i64 (k : Int)] 3))
      have HI := Lib.hid (ints_new wr (k : Int))
      cases hs : isData s k
      · obtain ⟨rfl, hg⟩ : s = true ∧ ¬ k % 4 < 2 := by
          cases s <;> simp [isData] at hs
          exact ⟨rfl, by omega⟩
        have HG : Hid (grp k = 1) := if_neg hg
        have HN := Lib.hid (dl_no hs)
        clear hs hg HO2 HP2 HU2 HI
        go_wp2_with (go_at_call 75; refine (group_any k _ (by omega)).mono ?_; rintro e w' ⟨rfl, rfl⟩; rw [HG.out])
        go_roundw
        case rel => exact ⟨k + 1, by omega, by go_num, by rw [HN.out]; exact HO, HP, HU⟩
        case measure => simp [intOf]; omega
      · have HN := Lib.hid (dl_yes hs)
        cases s
        · clear hs HP HU HO
          go_wp2_with (at_builtin; refine wpList_append_ints _ rfl (.tmp 34) (.tmp 36) _ rfl (w.heap.size + 1) 3 i0 _ Tryz.underlying57 hi0 hz0 hz1 hz2 rfl _ (dl false k).length (vals (dl false k)) rfl HO2.out (wr.heap.size + 1) (some ⟨wr.heap.size, 0, none⟩) 1 1 [(k : Int)] rfl HI.out (by have := HL.out; simp only [maxLen]; omega) (by have := HL.out; omega) (by simp; omega) ?_; intro v3 w3 hown3 hg3 _)
          go_roundw
          case rel =>
            refine ⟨k + 1, by omega, by go_num, by rw [HN.out]; exact OwnV.snoc hown3, ?_, HU2.out.grownOwn hg3 (fun j hj => by have := (HO2.out.lt j hj).1; omega)⟩
            exact (hg3.block _ (by simp; omega) (fun e => by have := (HO2.out.lt _ e.symm).1; omega)).trans HP2.out
          case measure => simp [intOf]; omega
        · have hg : k % 4 < 2 := by simpa [isData] using hs
          have HG : Hid (grp k = 0) := if_pos hg
          clear hs HP HU HO hg
          go_wp2_with (first | (go_at_call 75; refine (group_any k _ (by omega)).mono ?_; rintro e w' ⟨rfl, rfl⟩; rw [HG.out]) | (at_builtin; refine wpList_append_ints _ rfl (.tmp 34) (.tmp 36) _ rfl (w.heap.size + 1) 3 i0 _ Tryz.underlying57 hi0 hz0 hz1 hz2 rfl _ (dl true k).length (vals (dl true k)) rfl HO2.out (wr.heap.size + 1) (some ⟨wr.heap.size, 0, none⟩) 1 1 [(k : Int)] rfl HI.out (by have := HL.out; simp only [maxLen]; omega) (by have := HL.out; omega) (by simp; omega) ?_; intro v3 w3 hown3 hg3 _))
          go_roundw
          case rel =>
            refine ⟨k + 1, by omega, by go_num, by rw [HN.out]; exact OwnV.snoc hown3, ?_, HU2.out.grownOwn hg3 (fun j hj => by have := (HO2.out.lt j hj).1; omega)⟩
            exact (hg3.block _ (by simp; omega) (fun e => by have := (HO2.out.lt _ e.symm).1; omega)).trans HP2.out
          case measure => simp [intOf]; omega
    · obtain rfl : k = m := by omega
      have HM : Hid ((n : Int) - 1 = (k : Int) + 2) := by show _ = _; omega
      have hs := HO.out.sl
      obtain ⟨va, vc, hv, _⟩ := hs
      subst hv
      have hs3 : ((n : Int) - 3) = (k : Int) := e1
      cases s
      · have HF := Lib.hid (of_end false n w wr _ _ (.slice (some ⟨wr.heap.size, 0, none⟩) 2 2) (.cells #[.int .i64 (k : Int), .int .i64 ((n : Int) - 1)] 3) HO.out HP.out HU.out (by unfold parL; rw [if_neg (by decide), hs3]; exact own_two wr _ _))
        have b1 := Lib.hid (block_alloc HP.out (.cells #[.int .i64 (k : Int), .int .i64 ((n : Int) - 1)] 3))
        have c0 := cell_of b1.out 0
        have c1 := cell_of b1.out 1
        have f0 := free_of b1.out 0
        have f1 := free_of b1.out 1
        go_wp2
        exact bodyPost_ret_by (ret_plan _ w.heap.size _ _ true _ HF.out.1 rfl rfl) rfl ⟨_, _, rfl, HF.out.2⟩
      · have HF := Lib.hid (of_end true n w wr _ _ (.slice (some ⟨wr.heap.size, 0, none⟩) 1 1) (.cells #[.int .i64 (k : Int)] 3) HO.out HP.out HU.out (by unfold parL; rw [if_pos rfl, hs3]; exact own_one wr _))
        have b1 := Lib.hid (block_alloc HP.out (.cells #[.int .i64 (k : Int)] 3))
        have c0 := cell_of b1.out 0
        have c1 := cell_of b1.out 1
        have f0 := free_of b1.out 0
        have f1 := free_of b1.out 1
        go_wp2
        exact bodyPost_ret_by (ret_plan _ w.heap.size _ _ true _ HF.out.1 rfl rfl) rfl ⟨_, _, rfl, HF.out.2⟩
end Go.Proofs.YtoledgpcgjdjjaaGreatDoor.Pr
namespace Go.Proofs.YtoledgpcgjdjjaaGreatDoor.Pr
open Go.RowKit

def okX (x : Int) : Bool := decide (4 ≤ x) && decide (x ≤ 64) && (x % 4 == 0)
def DL (x : Int) (s : Bool) : List Int := if okX x = true then dl s (x.toNat - 3) else []
def PL (x : Int) (s : Bool) : List Int := if okX x = true then parL s x.toNat else []
theorem okX_yes {x : Int} (h : okX x = true) : ∃ n : Nat, x = n ∧ 4 ≤ n ∧ n ≤ 64 ∧ n % 4 = 0 := by
  unfold okX at h
  simp only [Bool.and_eq_true, decide_eq_true_eq, beq_iff_eq] at h
  exact ⟨x.toNat, by omega, by omega, by omega, by omega⟩
theorem okX_no {x : Int} (h : okX x = false) : x < 4 ∨ (4 ≤ x ∧ 64 < x) ∨ (4 ≤ x ∧ x ≤ 64 ∧ x % 4 ≠ 0) := by
  unfold okX at h
  by_cases h1 : x < 4
  · exact .inl h1
  · by_cases h2 : 64 < x
    · exact .inr (.inl ⟨by omega, h2⟩)
    · refine .inr (.inr ⟨by omega, by omega, fun e => ?_⟩)
      rw [decide_eq_true (by omega), decide_eq_true (by omega), e] at h
      cases h
set_option maxRecDepth 100000 in
set_option maxHeartbeats 1600000 in
theorem of_bad (x : Int) (s : Bool) (w : World) (h : x < 4 ∨ (4 ≤ x ∧ 64 < x) ∨ (4 ≤ x ∧ x ≤ 64 ∧ x % 4 ≠ 0)) :
    Calls Tryz.prog 78 #[.int .i64 x, .bool s] w fun e w' =>
      e = .returned (.tuple #[.agg #[.slice none 0 0, .slice none 0 0], .bool false]) ∧ Upd noBlock w w' := by
  have HF := Lib.hid (heap_alloc_new w (.cells #[.slice none 0 0, .slice none 0 0] 91))
  have HU := Lib.hid ((Upd.refl noBlock w).alloc (.cells #[.slice none 0 0, .slice none 0 0] 91))
  rcases h with h | ⟨h1, h2⟩ | ⟨h1, h2, h3⟩
  · go_enter Tryz.func78, Tryz.ntmps78
    go_wp2
    exact bodyPost_ret_by (ret_plan _ w.heap.size _ _ false _ HF.out rfl rfl) rfl ⟨rfl, HU.out⟩
  · go_enter Tryz.func78, Tryz.ntmps78
    go_wp2
    exact bodyPost_ret_by (ret_plan _ w.heap.size _ _ false _ HF.out rfl rfl) rfl ⟨rfl, HU.out⟩
  · have t3 : (x % 4 != 0) = true := by rw [bne_iff_ne]; omega
    go_enter Tryz.func78, Tryz.ntmps78
    go_wp2
    exact bodyPost_ret_by (ret_plan _ w.heap.size _ _ false _ HF.out rfl rfl) rfl ⟨rfl, HU.out⟩
theorem of_any (x : Int) (s : Bool) (w : World) :
    Calls Tryz.prog 78 #[.int .i64 x, .bool s] w fun e w' =>
      ∃ v1 v2, e = .returned (.tuple #[.agg #[v1, v2], .bool (okX x)]) ∧ OwnV w' w.heap.size v1 (DL x s) ∧ OwnV w' w.heap.size v2 (PL x s) ∧ Upd noBlock w w' := by
  unfold DL PL
  cases h : okX x
  · simp only [Bool.false_eq_true, if_false]
    refine (of_bad x s w (okX_no h)).mono fun e w' ⟨he, hu⟩ => ⟨_, _, he, OwnV.nil _ _, OwnV.nil _ _, hu⟩
  · simp only [if_true]
    obtain ⟨n, rfl, h1, h2, h3⟩ := okX_yes h
    exact of_in n s w h1 h2 h3

/-! the document's -/
def lo : Nat → Int
  | 0 => -1
  | k + 1 => if k % 4 < 2 then (k : Int) else lo k
end Go.Proofs.YtoledgpcgjdjjaaGreatDoor.Pr

/- The members of a group; the law's look; The parity of payloads. -/
namespace Go.Proofs.YtoledgpcgjdjjaaGreatDoor.Pr
open Go.RowKit

def ml (g : Int) (xs : List Int) : List Int := xs.filter fun x => grp x.toNat == g
theorem ml_succ (g : Int) (xs : List Int) (k : Nat) (h : k < xs.length) : ml g (xs.take (k + 1)) = ml g (xs.take k) ++ (if (grp (xs.getD k 0).toNat == g) = true then [xs.getD k 0] else []) := by
  have e : xs.take (k + 1) = xs.take k ++ [xs.getD k 0] := by
    rw [List.getD_eq_getElem?_getD, List.getElem?_eq_getElem h]
    simp
  rw [e]
  unfold ml
  rw [List.filter_append, List.filter_cons, List.filter_nil]
theorem ml_yes {g : Int} {xs : List Int} {k p : Nat} (h : k < xs.length) (hp : xs.getD k 0 = (p : Int)) (hy : (grp p == g) = true) : ml g (xs.take (k + 1)) = ml g (xs.take k) ++ [(p : Int)] := by
  rw [ml_succ g xs k h, hp, Int.toNat_natCast, if_pos hy]
theorem ml_no {g : Int} {xs : List Int} {k p : Nat} (h : k < xs.length) (hp : xs.getD k 0 = (p : Int)) (hy : (grp p == g) = false) : ml g (xs.take (k + 1)) = ml g (xs.take k) := by
  rw [ml_succ g xs k h, hp, Int.toNat_natCast, hy, if_neg (by decide), List.append_nil]
theorem ml_len (g : Int) (xs : List Int) (k : Nat) : (ml g (xs.take k)).length ≤ k := by
  unfold ml
  have h1 := List.length_filter_le (fun x => grp x.toNat == g) (xs.take k)
  have h2 := List.length_take_le k xs
  omega
def Pages (xs : List Int) : Prop := ∀ k, k < xs.length → ∃ p : Nat, xs.getD k 0 = (p : Int) ∧ p < 64

set_option maxRecDepth 100000 in
set_option maxHeartbeats 1600000 in
theorem members_any (a : Option Addr) (n c B : Nat) (v2 : Value) (xs : List Int) (g : Int) (w : World) (hr : Ints w B a n xs) (hB : B ≤ w.heap.size) (hx : Pages xs) (hn : n ≤ 64) :
    Calls Tryz.prog 76 #[.agg #[.slice a n c, v2], .int .i64 g] w fun e w' =>
      ∃ v, e = .returned v ∧ OwnV w' w.heap.size v (ml g xs) ∧ Upd noBlock w w' := by
  obtain ⟨i0, hi0, hz0, hz1, hz2⟩ := intParts7
  have HR := Lib.hid hr
  have hlen := hr.1
  have HX := Lib.hid hx
  have HBB := Lib.hid hB
  clear hr hx hB
  go_enter Tryz.func76, Tryz.ntmps76
  go_wp2
  obtain ⟨w0, hw0⟩ : ∃ w0, w0 = w.alloc (.cells #[.slice a n c, v2] 91) := ⟨_, rfl⟩
  have U0 : Hid (Upd noBlock w w0) := by rw [hw0]; exact (Upd.refl _ _).alloc _
  rw [← hw0]
  clear hw0
  go_loopw [5, 11] (fun v i wr => ∃ k : Nat, k ≤ n ∧ i = .int .i64 (k : Int) ∧ Hid (OwnV wr w.heap.size v (ml g (xs.take k))) ∧ Hid (Upd noBlock w wr)) (fun _ i _ => n - (intOf i).toNat)
  case atStart => exact ⟨0, Nat.zero_le _, rfl, OwnV.nil _ _, U0⟩
  case round =>
    clear U0
    obtain ⟨k, hk, rfl, HO, HU⟩ := hrel
    by_cases h0 : k < n
    · obtain ⟨p, hp, hp64⟩ := HX.out k (by omega)
      obtain ⟨b, off, hab, hb, hc⟩ := HR.out.cell (by omega)
      subst hab
      have c1 : wr.cell? ⟨b, off + k, none⟩ = some (.int .i64 (p : Int)) := by rw [← hp]; exact (World.cell?_of_block (HU.out.block b (by have := HBB.out; omega) (fun h => h))).trans (hc k h0)
      have HL : Hid ((ml g (xs.take k)).length ≤ 64) := by have := ml_len g xs k; show _ ≤ 64; omega
      have hbase := HU.out.size
      have HO2 := Lib.hid (HO.out.grow ((Upd.refl noBlock wr).alloc (.cells #[.int .i64 (p : Int)] 3)))
      have HU2 := Lib.hid (HU.out.alloc (.cells #[.int .i64 (p : Int)] 3))
      have HI := Lib.hid (ints_new wr (p : Int))
      have HK : Hid (k < xs.length) := by show _ < _; omega
      have HPK := Lib.hid hp
      clear hc hp
      cases hq : grp p == g
      · have HN := Lib.hid (ml_no HK.out HPK.out hq)
        clear HO2 HU2 HI
        go_wp2_with (go_at_call 75; refine (group_any p _ (by omega)).mono ?_; rintro e w' ⟨rfl, rfl⟩)
        go_roundw
        case rel => exact ⟨k + 1, by omega, by go_num, by rw [HN.out]; exact HO, HU⟩
        case measure => simp [intOf]; omega
      · have HN := Lib.hid (ml_yes HK.out HPK.out hq)
        clear HO HU
        go_wp2_with (first | (go_at_call 75; refine (group_any p _ (by omega)).mono ?_; rintro e w' ⟨rfl, rfl⟩) | (at_builtin; refine wpList_append_ints _ rfl (.tmp 19) (.tmp 21) _ rfl w.heap.size 3 i0 _ Tryz.underlying57 hi0 hz0 hz1 hz2 rfl _ (ml g (xs.take k)).length (vals (ml g (xs.take k))) rfl HO2.out (wr.heap.size + 1) (some ⟨wr.heap.size, 0, none⟩) 1 1 [(p : Int)] rfl HI.out (by have := HL.out; simp only [maxLen]; omega) (by have := HL.out; omega) (by simp; omega) ?_; intro v3 w3 hown3 hg3 _))
        go_roundw
        case rel => exact ⟨k + 1, by omega, by go_num, by rw [HN.out]; exact OwnV.snoc hown3, HU2.out.grownOwn hg3 (fun i hi => (HO2.out.lt i hi).1)⟩
        case measure => simp [intOf]; omega
    · obtain rfl : k = n := by omega
      have e : xs.take k = xs := List.take_of_length_le (by omega)
      rw [e] at HO
      go_wp2
      go_ret
      exact ⟨_, rfl, HO.out, HU.out⟩

end Go.Proofs.YtoledgpcgjdjjaaGreatDoor.Pr
namespace Go.Proofs.YtoledgpcgjdjjaaGreatDoor.Pr
open Go.RowKit

def xb (Ss : List ByteArray) (i : Nat) : UInt8 := Ss.foldl (fun b s => b ^^^ s.data.toList.getD i 0) 0
theorem xb_snoc (Ss : List ByteArray) (s : ByteArray) (i : Nat) : xb (Ss ++ [s]) i = xb Ss i ^^^ s.data.toList.getD i 0 := by
  unfold xb; rw [List.foldl_append]; rfl
def xsz (x : Int) : Nat := (min (max x 0) 2048).toNat
def xorL (x : Int) (Ss : List ByteArray) : List UInt8 := (List.range (xsz x)).map (xb Ss)
theorem xsz_le (x : Int) : xsz x ≤ 2048 := by unfold xsz; omega
theorem u8_xor_u8 (a b : UInt8) : bits .xor .u8 ((a.toNat : Nat) : Int) ((b.toNat : Nat) : Int) = (((a ^^^ b).toNat : Nat) : Int) := by
  rw [u8_xor_nat _ _ a.toNat_lt b.toNat_lt]
  rfl
theorem byteInfo7 : (Tryz.prog.info? 5).map (fun i => (i.zero, i.size, i.bytes)) = some (some (.int .u8 0), 1, 1) := by kernel_rfl
theorem xor_make (m : Nat) (V : Int) (hV : V = (m : Int)) (hm : m ≤ 2048) : ∀ w : World, (Instr.makeSlice 105 (.int .i64 V) (.int .i64 V)).run Tryz.prog w = .ok (.slice (some ⟨w.heap.size, 0, none⟩) m m) (w.alloc (.cells (madeCells #[.int .u8 0] m) 5)) := by
  subst hV
  exact run_make_row' (P := Tryz.prog) 105 5 (.int .u8 0) 1 Tryz.underlying105 byteInfo7 rfl .i64 .i64 m (by omega) (by omega)
theorem getD_byte (s : ByteArray) (k : Nat) (h : k < s.size) : s.data.toList.getD k 0 = s[k] := by
  have e : s.data.toList.length = s.size := rfl
  rw [List.getD_eq_getElem?_getD, List.getElem?_eq_getElem (by omega)]
  rfl
theorem getD_none (s : ByteArray) (k : Nat) (h : s.size ≤ k) : s.data.toList.getD k 0 = 0 := by
  have e : s.data.toList.length = s.size := rfl
  rw [List.getD_eq_getElem?_getD, List.getElem?_eq_none (by omega)]
  rfl
def xst (Ss : List ByteArray) (s : ByteArray) (j i : Nat) : Nat := if i < j then (xb (Ss ++ [s]) i).toNat else (xb Ss i).toNat
theorem xst_zero (Ss : List ByteArray) (s : ByteArray) (i : Nat) : xst Ss s 0 i = (xb Ss i).toNat := if_neg (Nat.not_lt_zero i)
theorem xst_step (Ss : List ByteArray) (s : ByteArray) (j i : Nat) : xst Ss s (j + 1) i = if i = j then (xb (Ss ++ [s]) j).toNat else xst Ss s j i := by
  unfold xst
  by_cases e : i = j
  · subst e; rw [if_pos rfl, if_pos (by omega)]
  · rw [if_neg e]
    by_cases h : i < j
    · rw [if_pos h, if_pos (by omega)]
    · rw [if_neg h, if_neg (by omega)]
theorem xst_done (Ss : List ByteArray) (s : ByteArray) (j m : Nat) (h : j = min s.size m) (i : Nat) (hi : i < m) : xst Ss s j i = (xb (Ss ++ [s]) i).toNat := by
  unfold xst
  by_cases e : i < j
  · rw [if_pos e]
  · rw [if_neg e, xb_snoc, getD_none s i (by omega)]
    simp
theorem takeS_snoc (l : List ByteArray) (k : Nat) (h : k < l.length) : l.take (k + 1) = l.take k ++ [l.getD k ⟨#[]⟩] := by
  rw [List.getD_eq_getElem?_getD, List.getElem?_eq_getElem h]
  simp
set_option maxRecDepth 100000 in
set_option maxHeartbeats 3200000 in
theorem xor_any (x : Int) (a : Option Addr) (n c B : Nat) (Ss : List ByteArray) (w : World) (hr : Strs w B a n Ss) (hB : B ≤ w.heap.size) (hn : n ≤ 8796093022208) :
    Calls Tryz.prog 77 #[.int .i64 x, .slice a n c] w fun e w' => e = .returned (.string ⟨(xorL x Ss).toArray⟩) ∧ Upd noBlock w w' := by
  have HS := Lib.hid hr
  have HBB := Lib.hid hB
  obtain ⟨m, hm⟩ : ∃ m, xsz x = m := ⟨_, rfl⟩
  have hmle : m ≤ 2048 := by rw [← hm]; exact xsz_le x
  have HX : Hid (xorL x Ss = (List.range m).map (xb Ss)) := by show _ = _; unfold xorL; rw [hm]
  have hcase : (x < 0 ∧ m = 0) ∨ (0 ≤ x ∧ x ≤ 2048 ∧ x = (m : Int)) ∨ (0 ≤ x ∧ 2048 < x ∧ m = 2048) := by unfold xsz at hm; omega
  have U0 : ∀ w : World, Hid (Upd noBlock w (w.alloc (.cells (madeCells #[.int .u8 0] m) 5))) := fun w => (Upd.refl _ _).alloc _
  have B0 : ∀ w : World, Hid (ByteRow (w.alloc (.cells (madeCells #[.int .u8 0] m) 5)) w.heap.size m 5 (fun i => (xb (Ss.take 0) i).toNat)) := fun w => by
    obtain ⟨c, h1, h2, h3⟩ := World.rowIs_made w (.int .u8 0) m 5
    exact ⟨c, _, h1, .inl rfl, by omega, fun j hj => h3 j hj⟩
  obtain ⟨W0, hW0⟩ : ∃ W0, W0 = w.alloc (.cells (madeCells #[.int .u8 0] m) 5) := ⟨_, rfl⟩
  have b0 := B0 w
  have u0 := U0 w
  rw [← hW0] at b0 u0
  have HW0 := Lib.hid hW0
  clear hr hB hm B0 U0 hW0
  have key : ∃ V : Int, ((x < 0 ∧ V = 0) ∨ (0 ≤ x ∧ x ≤ 2048 ∧ V = x) ∨ (0 ≤ x ∧ 2048 < x ∧ V = 2048)) ∧ ∀ w : World, (Instr.makeSlice 105 (.int .i64 V) (.int .i64 V)).run Tryz.prog w = .ok (.slice (some ⟨w.heap.size, 0, none⟩) m m) (w.alloc (.cells (madeCells #[.int .u8 0] m) 5)) := by
    rcases hcase with ⟨h1, h2⟩ | ⟨h1, h2, h3⟩ | ⟨h1, h2, h3⟩
    · exact ⟨0, .inl ⟨h1, rfl⟩, xor_make m 0 (by omega) hmle⟩
    · exact ⟨x, .inr (.inl ⟨h1, h2, rfl⟩), xor_make m x (by omega) hmle⟩
    · exact ⟨2048, .inr (.inr ⟨h1, h2, rfl⟩), xor_make m 2048 (by omega) hmle⟩
  clear hcase
  obtain ⟨V, hV, hmk0⟩ := key
  have hmk : ∀ w : World, (Instr.makeSlice 105 (.int .i64 (min (max x 0) 2048)) (.int .i64 (min (max x 0) 2048))).run Tryz.prog w = .ok (.slice (some ⟨w.heap.size, 0, none⟩) m m) (w.alloc (.cells (madeCells #[.int .u8 0] m) 5)) := by
    rw [show min (max x 0) 2048 = V by omega]; exact hmk0
  clear hmk0
  rcases hV with ⟨hx, rfl⟩ | ⟨hx, hx2, rfl⟩ | ⟨hx, hx2, rfl⟩
  all_goals
    go_enter Tryz.func77, Tryz.ntmps77
    go_wp2
    clear hmk
    rw [← HW0.out]
    go_loopw [15] (fun i wr => ∃ k : Nat, k ≤ n ∧ i = .int .i64 (k : Int) ∧ Hid (ByteRow wr w.heap.size m 5 (fun i => (xb (Ss.take k) i).toNat)) ∧ Hid (Upd noBlock w wr)) (fun i _ => n - (intOf i).toNat)
    case atStart => exact ⟨0, Nat.zero_le _, rfl, b0, u0⟩
    case round =>
      clear b0 u0
      obtain ⟨k, hk, rfl, HR, HU⟩ := hrel
      by_cases h0 : k < n
      · obtain ⟨b, off, hab, hb, hc⟩ := HS.out.cell (by omega)
        subst hab
        have hsz := HS.out.at h0
        have HT := Lib.hid (takeS_snoc Ss k (by rw [HS.out.len]; exact h0))
        obtain ⟨s, hs⟩ : ∃ s, Ss.getD k ⟨#[]⟩ = s := ⟨_, rfl⟩
        have c1 : wr.cell? ⟨b, off + k, none⟩ = some (.string s) := by rw [← hs]; exact (World.cell?_of_block (HU.out.block b (by have := HBB.out; omega) (fun h => h))).trans (hc k h0)
        rw [hs] at hsz HT
        have hsz' : s.size ≤ 9223372036854775807 := hsz
        obtain ⟨T, hT⟩ : ∃ T, Ss.take k = T := ⟨_, rfl⟩
        rw [hT] at HR HT
        have HR0 : Hid (ByteRow wr w.heap.size m 5 (xst T s 0)) := HR.out.congr fun i _ => (xst_zero T s i).symm
        clear hc hs hsz HR hT
        obtain ⟨wo, rfl⟩ : ∃ wo : World, wo = wr := ⟨_, rfl⟩
        rcases Nat.lt_or_ge m s.size with hle | hle
        all_goals
          go_wp2
          go_loopw [24] (fun i wr => ∃ j : Nat, j ≤ s.size ∧ j ≤ m ∧ i = .int .i64 (j : Int) ∧ Hid (ByteRow wr w.heap.size m 5 (xst T s j)) ∧ Hid (Upd noBlock w wr)) (fun i _ => m - (intOf i).toNat)
          case atStart => exact ⟨0, Nat.zero_le _, Nat.zero_le _, rfl, HR0, HU⟩
          case round =>
            clear HR0 HU c1
            obtain ⟨j, hj1, hj2, rfl, HR, HU⟩ := hrel
            by_cases j0 : j < s.size ∧ j < m
            · obtain ⟨j1, j2⟩ := j0
              have cc := HR.out.cell j j2
              have ff := HR.out.free j j2
              rw [show xst T s j j = (xb T j).toNat from if_neg (Nat.lt_irrefl j)] at cc
              have hx8 : bits .xor .u8 (((xb T j).toNat : Nat) : Int) ((s[j].toNat : Nat) : Int) = (((xb (T ++ [s]) j).toNat : Nat) : Int) := by
                rw [u8_xor_u8, xb_snoc, getD_byte s j j1]
              have HR2 : Hid (ByteRow (wr.setCell ⟨w.heap.size, j, none⟩ (.int .u8 (((xb (T ++ [s]) j).toNat : Nat) : Int))) w.heap.size m 5 (xst T s (j + 1))) := (HR.out.set j _).congr fun i _ => (xst_step T s j i).symm
              have HU2 : Hid (Upd noBlock w (wr.setCell ⟨w.heap.size, j, none⟩ (.int .u8 (((xb (T ++ [s]) j).toNat : Nat) : Int)))) := HU.out.setCell (.inr (Nat.le_refl _)) _
              clear HR HU
              generalize (xb (T ++ [s]) j).toNat = z at *
              generalize (xb T j).toNat = z0 at *
              go_wp2
              go_region
              go_wp2
              go_roundw
              case rel => exact ⟨j + 1, by omega, by omega, by go_num, HR2.out.grow (Upd.refl _ _).drew, HU2.out.drew⟩
              case measure => simp [intOf]; omega
            · have HJ : Hid (j = min s.size m) := by show _ = _; omega
              have hjx : ¬ (j < s.size) ∨ ¬ (j < m) := by omega
              have HR2 : Hid (ByteRow wr w.heap.size m 5 (fun i => (xb (Ss.take (k + 1)) i).toNat)) := HR.out.congr fun i hi => by rw [HT.out]; exact xst_done T s j m HJ.out i hi
              have hjs : decide (j < s.size) = false ∨ decide (j < m) = false := by
                rcases hjx with h | h
                · exact .inl (decide_eq_false h)
                · exact .inr (decide_eq_false h)
              clear hjx
              go_wp2
              go_roundw
              case rel => exact ⟨k + 1, by omega, by go_num, HR2, HU⟩
              case measure => simp [intOf]; omega
      · obtain rfl : k = n := by omega
        have e : Ss.take k = Ss := List.take_of_length_le (by rw [HS.out.len]; omega)
        rw [e] at HR
        have hcv := HR.out.text (P := Tryz.prog) ((List.range m).map (xb Ss)) (by simp) (fun j h => by simp) m 105 9 Tryz.underlying105 Tryz.underlying5 Tryz.underlying9
        clear e
        go_wp2
        go_ret
        exact ⟨by rw [HX.out]; rfl, HU.out⟩
end Go.Proofs.YtoledgpcgjdjjaaGreatDoor.Pr

/- Blocks of wear: how they lie; the calls that look at one; Pick; the law's look. -/
namespace Go.Proofs.YtoledgpcgjdjjaaGreatDoor.Pr
open Go.RowKit

structure Bk where
  er : Int
  rd : Int
  us : Bool
  wo : Bool
def Bk.agg (b : Bk) : Value := .agg #[.int .i64 b.er, .int .i64 b.rd, .bool b.us, .bool b.wo]
def Bk.spare (b : Bk) : Bool := !b.us && !b.wo
set_option maxRecDepth 100000 in
theorem spare_any (b : Bk) (w : World) :
    Calls Tryz.prog 91 #[b.agg] w fun e w' => e = .returned (.bool b.spare) ∧ Upd noBlock w w' := by
  obtain ⟨er, rd, us, wo⟩ := b
  have hu : Hid (Upd noBlock w (w.alloc (.cells #[.int .i64 er, .int .i64 rd, .bool us, .bool wo] 66))) := (Upd.refl _ _).alloc _
  unfold Bk.agg Bk.spare
  cases us <;> cases wo
  all_goals
    go_enter Tryz.func91, Tryz.ntmps91
    go_wp2
    go_ret
    exact ⟨rfl, hu.out⟩
def Blks (w : World) (B : Nat) (a : Option Addr) (n : Nat) (f : Nat → Bk) : Prop :=
  0 < n → ∃ g off, a = some ⟨g, off, none⟩ ∧ g < B ∧ ∀ i, i < n → w.cell? ⟨g, off + i * 4, none⟩ = some (.int .i64 (f i).er) ∧ w.cell? ⟨g, off + i * 4 + 1, none⟩ = some (.int .i64 (f i).rd) ∧ w.cell? ⟨g, off + i * 4 + 2, none⟩ = some (.bool (f i).us) ∧ w.cell? ⟨g, off + i * 4 + 3, none⟩ = some (.bool (f i).wo)
theorem Blks.upd {w w' : World} {B n : Nat} {a : Option Addr} {f : Nat → Bk} (h : Blks w B a n f) {R : Nat → Prop} (hu : Upd R w w') (hB : B ≤ w.heap.size) (hR : ∀ g, a.map Addr.block = some g → g < B → ¬ R g) : Blks w' B a n f := by
  intro h0
  obtain ⟨g, off, rfl, hg, hc⟩ := h h0
  have e : ∀ j, w'.cell? ⟨g, j, none⟩ = w.cell? ⟨g, j, none⟩ := fun j => World.cell?_of_block (hu.block g (by omega) (hR g rfl hg))
  exact ⟨g, off, rfl, hg, fun i hi => by rw [e, e, e, e]; exact hc i hi⟩
theorem Blks.grow {w w' : World} {B n : Nat} {a : Option Addr} {f : Nat → Bk} (h : Blks w B a n f) (hu : Upd noBlock w w') (hB : B ≤ w.heap.size) : Blks w' B a n f := h.upd hu hB fun _ _ _ h => h
def chosenL (p : Bk → Bool) (f : Nat → Bk) : Nat → List Int
  | 0 => []
  | k + 1 => chosenL p f k ++ (if p (f k) = true then [(k : Int)] else [])
theorem chosen_yes {p : Bk → Bool} {f : Nat → Bk} {k : Nat} (h : p (f k) = true) : chosenL p f (k + 1) = chosenL p f k ++ [(k : Int)] := by
  show _ ++ _ = _; rw [if_pos h]
theorem chosen_no {p : Bk → Bool} {f : Nat → Bk} {k : Nat} (h : p (f k) = false) : chosenL p f (k + 1) = chosenL p f k := by
  show _ ++ _ = _; rw [h, if_neg (by decide), List.append_nil]
theorem chosen_len (p : Bk → Bool) (f : Nat → Bk) (k : Nat) : (chosenL p f k).length ≤ k := by
  induction k with
  | zero => exact Nat.le_refl _
  | succ k ih =>
    unfold chosenL
    rw [List.length_append]
    split <;> simp <;> omega
set_option maxRecDepth 100000 in
set_option maxHeartbeats 1600000 in
theorem chosen_any (F : FuncId) (cap : Array Value) (p : Bk → Bool) (a : Option Addr) (n c B : Nat) (f : Nat → Bk) (w : World) (h : Blks w B a n f) (hB : B ≤ w.heap.size) (hn : n ≤ 8796093022208)
    (eg : ∀ args w, (callFunc F args).run Tryz.prog w = .ok (.enter F args) w) (hp : ∀ b wz, Upd noBlock w wz → Calls Tryz.prog F (#[b.agg] ++ cap) wz fun e w' => e = .returned (.bool (p b)) ∧ Upd noBlock wz w') :
    Calls Tryz.prog 90 #[.slice a n c, .func (.func F) #[] cap] w fun e w' => ∃ v, e = .returned v ∧ OwnV w' w.heap.size v (chosenL p f n) ∧ Upd noBlock w w' := by
  obtain ⟨i0, hi0, hz0, hz1, hz2⟩ := intParts7
  have HS := Lib.hid h
  have HBB := Lib.hid hB
  have HP := Lib.hid hp
  clear h hB hp
  go_enter Tryz.func90, Tryz.ntmps90
  go_wp2
  go_loopw [5, 10] (fun v i wr => ∃ k : Nat, k ≤ n ∧ i = .int .i64 (k : Int) ∧ Hid (OwnV wr w.heap.size v (chosenL p f k)) ∧ Hid (Upd noBlock w wr)) (fun _ i _ => n - (intOf i).toNat)
  case atStart => exact ⟨0, Nat.zero_le _, rfl, OwnV.nil _ _, Upd.refl _ _⟩
  case round =>
    obtain ⟨k, hk, rfl, HO, HU⟩ := hrel
    by_cases h0 : k < n
    · obtain ⟨g, off, hab, hg, hc⟩ := HS.out (by omega)
      subst hab
      have e : ∀ j, wr.cell? ⟨g, j, none⟩ = w.cell? ⟨g, j, none⟩ := fun j => World.cell?_of_block (HU.out.block g (by have := HBB.out; omega) (fun h => h))
      obtain ⟨k0, k1, k2, k3⟩ := hc k h0
      rw [← e] at k0 k1 k2 k3
      clear hc e
      have HL : Hid ((chosenL p f k).length ≤ k) := chosen_len p f k
      go_wp2
      refine (HP.out (f k) _ (HU.out.alloc _)).mono ?_
      rintro e w2 ⟨rfl, u2⟩
      have U2 := Lib.hid ((HU.out.alloc (.cells #[.int .i64 (f k).er, .int .i64 (f k).rd, .bool (f k).us, .bool (f k).wo] 66)).trans u2)
      have O2 := Lib.hid ((HO.out.grow ((Upd.refl noBlock wr).alloc (.cells #[.int .i64 (f k).er, .int .i64 (f k).rd, .bool (f k).us, .bool (f k).wo] 66))).grow u2)
      clear u2 HO HU
      cases hq : p (f k)
      · have HN := Lib.hid (chosen_no hq)
        go_wp2_with fail
        go_roundw
        case rel => exact ⟨k + 1, by omega, by go_num, by rw [HN.out]; exact O2, U2⟩
        case measure => simp [intOf]; omega
      · have HN := Lib.hid (chosen_yes hq)
        have hbase := U2.out.size
        have O3 := Lib.hid (O2.out.grow ((Upd.refl noBlock w2).alloc (.cells #[.int .i64 (k : Int)] 3)))
        have U3 := Lib.hid (U2.out.alloc (.cells #[.int .i64 (k : Int)] 3))
        have HI := Lib.hid (ints_new w2 (k : Int))
        go_wp2_with (at_builtin; refine wpList_append_ints _ rfl (.tmp 18) (.tmp 20) _ rfl w.heap.size 3 i0 _ Tryz.underlying57 hi0 hz0 hz1 hz2 rfl _ (chosenL p f k).length (vals (chosenL p f k)) rfl O3.out (w2.heap.size + 1) (some ⟨w2.heap.size, 0, none⟩) 1 1 [(k : Int)] rfl HI.out (by have := HL.out; simp only [maxLen]; omega) (by have := HL.out; omega) (by simp; omega) ?_; intro v3 w3 hown3 hg3 _)
        go_roundw
        case rel => exact ⟨k + 1, by omega, by go_num, by rw [HN.out]; exact OwnV.snoc hown3, U3.out.grownOwn hg3 (fun i hi => (O3.out.lt i hi).1)⟩
        case measure => simp [intOf]; omega
    · obtain rfl : k = n := by omega
      go_wp2
      go_ret
      exact ⟨_, rfl, HO.out, HU.out⟩
def leastL (f : Nat → Bk) (l : List Int) : Int := l.foldl (fun m i => if m < 0 then i else if (f i.toNat).er < (f m.toNat).er then i else m) (-1)
theorem least_snoc (f : Nat → Bk) (l : List Int) (i : Int) : leastL f (l ++ [i]) = if leastL f l < 0 then i else if (f i.toNat).er < (f (leastL f l).toNat).er then i else leastL f l := by
  unfold leastL; rw [List.foldl_append]; rfl
def Nums (n : Nat) (l : List Int) : Prop := ∀ k, k < l.length → ∃ p : Nat, l.getD k 0 = (p : Int) ∧ p < n
theorem least_num (f : Nat → Bk) (n : Nat) (l : List Int) (h : Nums n l) (k : Nat) (hk : k ≤ l.length) : leastL f (l.take k) = -1 ∨ ∃ p : Nat, leastL f (l.take k) = (p : Int) ∧ p < n := by
  induction k with
  | zero => exact .inl rfl
  | succ k ih =>
    have e : l.take (k + 1) = l.take k ++ [l.getD k 0] := by
      rw [List.getD_eq_getElem?_getD, List.getElem?_eq_getElem (by omega)]
      simp
    obtain ⟨p, hp, hpn⟩ := h k (by omega)
    rw [e, least_snoc, hp]
    split
    · exact .inr ⟨p, rfl, hpn⟩
    · split
      · exact .inr ⟨p, rfl, hpn⟩
      · exact ih (by omega)
theorem chosen_nums (p : Bk → Bool) (f : Nat → Bk) (n : Nat) : Nums n (chosenL p f n) := by
  have h : ∀ k, k ≤ n → Nums n (chosenL p f k) := by
    intro k
    induction k with
    | zero => intro _ i hi; exact absurd hi (Nat.not_lt_zero i)
    | succ k ih =>
      intro hk i hi
      cases hd : p (f k)
      · rw [chosen_no hd] at hi ⊢; exact ih (by omega) i hi
      · rw [chosen_yes hd] at hi ⊢
        rw [List.length_append, List.length_singleton] at hi
        by_cases e : i < (chosenL p f k).length
        · obtain ⟨q, h1, h2⟩ := ih (by omega) i e
          exact ⟨q, by rw [← h1, List.getD_eq_getElem?_getD, List.getD_eq_getElem?_getD, List.getElem?_append_left e], h2⟩
        · have : i = (chosenL p f k).length := by omega
          subst this
          exact ⟨k, by rw [List.getD_eq_getElem?_getD, List.getElem?_append_right (Nat.le_refl _)]; simp, by omega⟩
  exact h n (Nat.le_refl n)
set_option maxRecDepth 100000 in
set_option maxHeartbeats 1600000 in
theorem least_any (a : Option Addr) (n c B : Nat) (f : Nat → Bk) (a2 : Option Addr) (n2 c2 : Nat) (l : List Int) (w : World) (h : Blks w B a n f) (hl : Ints w w.heap.size a2 n2 l) (hm : Nums n l) (hn : n ≤ 8796093022208) (hn2 : n2 ≤ 8796093022208) :
    Calls Tryz.prog 89 #[.slice a n c, .slice a2 n2 c2] w fun e w' => e = .returned (.int .i64 (leastL f l)) ∧ Upd noBlock w w' ∧ w'.heap = w.heap := by
  have HS := Lib.hid h
  have HL := Lib.hid hl
  have HM := Lib.hid hm
  have hlen := hl.1
  clear h hl hm
  go_enter Tryz.func89, Tryz.ntmps89
  go_wp2
  go_loopw [5, 10] (fun v i wr => ∃ k : Nat, k ≤ n2 ∧ i = .int .i64 (k : Int) ∧ Hid (v = .int .i64 (leastL f (l.take k))) ∧ Hid (Upd noBlock w wr ∧ wr.heap = w.heap)) (fun _ i _ => n2 - (intOf i).toNat)
  case atStart => exact ⟨0, Nat.zero_le _, rfl, rfl, Upd.refl _ _, rfl⟩
  case round =>
    obtain ⟨k, hk, rfl, HV, HU⟩ := hrel
    obtain rfl := HV.out
    clear HV
    by_cases h0 : k < n2
    · obtain ⟨g, off, hab, hg, hc⟩ := HL.out.cell (by omega)
      subst hab
      obtain ⟨p, hp, hpn⟩ := HM.out k (by omega)
      have c1 : wr.cell? ⟨g, off + k, none⟩ = some (.int .i64 (p : Int)) := by rw [← hp]; exact (World.cell?_of_block (by rw [HU.out.2])).trans (hc k h0)
      obtain ⟨gb, offb, hab, hgb, hcb⟩ := HS.out (by omega)
      subst hab
      have e : ∀ j, wr.cell? ⟨gb, j, none⟩ = w.cell? ⟨gb, j, none⟩ := fun j => World.cell?_of_block (by rw [HU.out.2])
      have kp := (hcb p hpn).1
      rw [← e] at kp
      have HT : Hid (l.take (k + 1) = l.take k ++ [(p : Int)]) := by
        show _ = _
        rw [← hp, List.getD_eq_getElem?_getD, List.getElem?_eq_getElem (by omega)]
        simp
      have hpb : p ≤ 9223372036854775807 := by omega
      have hsn := least_snoc f (l.take k) (p : Int)
      rw [← HT.out] at hsn
      have HSN := Lib.hid hsn
      have hln := least_num f n l HM.out k (by omega)
      rcases hln with hln | ⟨q, hln, hqn⟩
      · have HN : Hid (leastL f (l.take (k + 1)) = (p : Int)) := by show _ = _; rw [HSN.out, hln]; rfl
        rw [hln]
        clear hc hp hcb e hln hsn HSN
        go_wp2
        go_quiet (fail)
        go_wp2
        go_roundw
        case rel => exact ⟨k + 1, by omega, by go_num, by rw [HN.out]; exact rfl, HU.out.1.drewN _, HU.out.2⟩
        case measure => simp [intOf]; omega
      · have kq := (hcb q hqn).1
        rw [← e] at kq
        rw [hln]
        have hq0 : ¬ (q : Int) < 0 := by omega
        by_cases hlt : (f p).er < (f q).er
        · have HN : Hid (leastL f (l.take (k + 1)) = (p : Int)) := by show _ = _; rw [HSN.out, hln, if_neg hq0, Int.toNat_natCast, Int.toNat_natCast, if_pos hlt]
          have hd : decide ((f p).er < (f q).er) = true := decide_eq_true hlt
          clear hc hp hcb e hln hsn HSN
          go_wp2
          go_quiet (fail)
          go_wp2
          go_roundw
          case rel => exact ⟨k + 1, by omega, by go_num, by rw [HN.out]; exact rfl, HU.out.1.drewN _, HU.out.2⟩
          case measure => simp [intOf]; omega
        · have HN : Hid (leastL f (l.take (k + 1)) = (q : Int)) := by show _ = _; rw [HSN.out, hln, if_neg hq0, Int.toNat_natCast, Int.toNat_natCast, if_neg hlt]
          have hd : decide ((f p).er < (f q).er) = false := decide_eq_false hlt
          clear hc hp hcb e hln hsn HSN
          go_wp2
          go_quiet (fail)
          go_wp2
          go_roundw
          case rel => exact ⟨k + 1, by omega, by go_num, by rw [HN.out]; exact rfl, HU.out.1.drewN _, HU.out.2⟩
          case measure => simp [intOf]; omega
    · obtain rfl : k = n2 := by omega
      have e : l.take k = l := List.take_of_length_le (by omega)
      rw [e]
      go_wp2
      go_ret
      exact ⟨rfl, HU.out.1, HU.out.2⟩
end Go.Proofs.YtoledgpcgjdjjaaGreatDoor.Pr
namespace Go.Proofs.YtoledgpcgjdjjaaGreatDoor.Pr
open Go.RowKit

def Picked (p : Bk → Bool) (f : Nat → Bk) (n : Nat) (m : Int) : Prop :=
  (m = -1 ∧ ∀ j, j < n → p (f j) = false) ∨
  ∃ q : Nat, q < n ∧ m = (q : Int) ∧ p (f q) = true ∧ (∀ j, j < n → p (f j) = true → (f q).er ≤ (f j).er) ∧ ∀ j, j < q → p (f j) = true → (f q).er < (f j).er
theorem picked_any (p : Bk → Bool) (f : Nat → Bk) (n : Nat) : Picked p f n (leastL f (chosenL p f n)) := by
  induction n with
  | zero => exact .inl ⟨rfl, fun j hj => absurd hj (Nat.not_lt_zero j)⟩
  | succ n ih =>
    cases hq : p (f n)
    · rw [chosen_no hq]
      rcases ih with ⟨h1, h2⟩ | ⟨q, h1, h2, h3, h4, h5⟩
      · exact .inl ⟨h1, fun j hj => if e : j = n then e ▸ hq else h2 j (by omega)⟩
      · refine .inr ⟨q, by omega, h2, h3, fun j hj hp => ?_, h5⟩
        by_cases e : j = n
        · subst e; rw [hq] at hp; cases hp
        · exact h4 j (by omega) hp
    · rw [chosen_yes hq, least_snoc]
      rcases ih with ⟨h1, h2⟩ | ⟨q, h1, h2, h3, h4, h5⟩
      · rw [h1, if_pos (by decide)]
        refine .inr ⟨n, by omega, rfl, hq, fun j hj hp => ?_, fun j hj hp => ?_⟩
        · by_cases e : j = n
          · subst e; exact Int.le_refl _
          · rw [h2 j (by omega)] at hp; cases hp
        · rw [h2 j hj] at hp; cases hp
      · rw [h2, if_neg (by omega), Int.toNat_natCast, Int.toNat_natCast]
        by_cases hlt : (f n).er < (f q).er
        · rw [if_pos hlt]
          refine .inr ⟨n, by omega, rfl, hq, fun j hj hp => ?_, fun j hj hp => ?_⟩
          · by_cases e : j = n
            · subst e; exact Int.le_refl _
            · have := h4 j (by omega) hp; omega
          · have := h4 j hj hp; omega
        · rw [if_neg hlt]
          refine .inr ⟨q, by omega, rfl, h3, fun j hj hp => ?_, h5⟩
          by_cases e : j = n
          · subst e; omega
          · exact h4 j (by omega) hp
set_option maxRecDepth 100000 in
set_option maxHeartbeats 1600000 in
theorem pick_any (a : Option Addr) (n c B : Nat) (f : Nat → Bk) (w : World) (h : Blks w B a n f) (hB : B ≤ w.heap.size) (hn : n ≤ 8796093022208) :
    Calls Tryz.prog 68 #[.slice a n c] w fun e w' => e = .returned (.int .i64 (leastL f (chosenL Bk.spare f n))) ∧ Upd noBlock w w' := by
  have HC := Lib.hid (chosen_any 91 #[] Bk.spare a n c B f w h hB hn (fun _ _ => rfl) (fun b wz _ => spare_any b wz))
  have HS := Lib.hid h
  have HBB := Lib.hid hB
  have HLE := Lib.hid (chosen_len Bk.spare f n)
  have HNU := Lib.hid (chosen_nums Bk.spare f n)
  clear h hB
  generalize chosenL Bk.spare f n = l at *
  go_enter Tryz.func68, Tryz.ntmps68
  go_wp2_with (first
    | (go_at_call 90; refine HC.out.mono ?_; rintro e w1 ⟨v, rfl, o1, u1⟩; obtain ⟨a2, c2, rfl, i1, -, -⟩ := o1.sl; have U1 := Lib.hid u1; have I1 := Lib.hid i1; clear u1 i1 o1)
    | (go_at_call 89; refine (least_any a n c B f a2 l.length c2 l w1 (HS.out.grow U1.out HBB.out) I1.out HNU.out hn (by have := HLE.out; omega)).mono ?_; rintro e w2 ⟨rfl, u2, -⟩; have U2 := Lib.hid u2; clear u2))
  go_ret
  exact ⟨rfl, U1.out.trans U2.out⟩
end Go.Proofs.YtoledgpcgjdjjaaGreatDoor.Pr
