import Derived.Test.YtnppjfaecnikpaaGreatDoorRGMc
import Derived.Test.YtnppjfaecnikpaaGreatDoorRGZa
import Derived.Test.YtnppjfaecnikpaaGreatDoorRGIc
import Derived.Test.YtnppjfaecnikpaaGreatDoorRGHu
import Derived.Deep.RegionWith
import Derived.Test.YtnppjfaecnikpaaGreatDoorRGPc
import Derived.Test.YtnppjfaecnikpaaGreatDoorRShelf
import Derived.Test.YtnppjfaecnikpaaGreatDoorRDc
import Derived.Test.YtnppjfaecnikpaaGreatDoorRGIh
import Derived.Test.YtnppjfaecnikpaaGreatDoorRows
import Derived.Test.YtnppjfaecnikpaaGreatDoorRApp
import Derived.WalkKit
import Derived.Lib.Hide
import Derived.WalkSpells
import Derived.WalkLawsBesides
import Derived.BigQuiet
import Derived.BigRegion
import Derived.Deep.OwnRows
import Derived.Deep.QuietTactic
import Derived.OwnWalk
/- Numbers of the field in memory; gap. -/
namespace Go.Proofs.YtnppjfaecnikpaaGreatDoor
open Go.RowKit Pm F
set_option linter.unusedVariables false

theorem al_val (n : Nat) : (al n).1 = Gfm.pw n := rfl
theorem mul_F (B c t : Nat) (k : Int) (x y : F) (w : World) (h : MadeB B w c t k) :
    Calls Tryz.prog 134 #[.pointer (some ⟨c, 5, none⟩), .int .i64 (x.1 : Int), .int .i64 (y.1 : Int)] w fun e w' =>
      e = .returned (.int .i64 ((x * y).1 : Int)) ∧ MadeB B w' c t k ∧ Upd (oneBlock c) w w' :=
  (mul_B B c t k _ _ w h).mono fun e w' ⟨h1, h2, h3⟩ => ⟨by rw [h1, low_nat _ x.2, low_nat _ y.2]; rfl, h2, h3⟩
theorem exp_F (B c t : Nat) (k a : Int) (w : World) (h : MadeB B w c t k) :
    Calls Tryz.prog 126 #[.pointer (some ⟨c, 5, none⟩), .int .i64 a] w fun e w' =>
      e = .returned (.int .i64 ((alI a).1 : Int)) ∧ Upd noBlock w w' := exp_B B c t k a w h
theorem log_F (B c t : Nat) (k : Int) (x : F) (w : World) (h : MadeB B w c t k) (hx : x ≠ 0) :
    Calls Tryz.prog 139 #[.pointer (some ⟨c, 5, none⟩), .int .i64 (x.1 : Int)] w fun e w' =>
      e = .returned (.tuple #[.int .i64 (Gfm.lg x.1 : Nat), .bool true]) ∧ Upd noBlock w w' := by
  have hl := low_nat x.1 x.2
  have h0 := val_pos hx
  exact (log_B B c t k _ w h (by rw [hl]; omega)).mono fun e w' ⟨h1, h3⟩ => ⟨by rw [h1, hl], h3⟩
theorem log_F0 (c : Nat) (w : World) :
    Calls Tryz.prog 139 #[.pointer (some ⟨c, 5, none⟩), .int .i64 0] w fun e w' => e = .returned (.tuple #[.int .i64 0, .bool false]) ∧ w = w' := log_zero c 0 w rfl
theorem inv_F (B c t : Nat) (k : Int) (x : F) (w : World) (h : MadeB B w c t k) (hx : x ≠ 0) :
    Calls Tryz.prog 132 #[.pointer (some ⟨c, 5, none⟩), .int .i64 (x.1 : Int)] w fun e w' =>
      ∃ y : F, x * y = 1 ∧ e = .returned (.tuple #[.int .i64 (y.1 : Int), .bool true]) ∧ Upd noBlock w w' := by
  have hl := low_nat x.1 x.2
  have h0 := val_pos hx
  refine (inv_B B c t k _ w h (by rw [hl]; omega)).mono fun e w' ⟨h1, h3⟩ => ?_
  rw [hl] at h1
  refine ⟨al (8191 - Gfm.lg x.1), ?_, ?_, h3⟩
  · have hlt := Gfm.lg_lt x.1
    have e : al (Gfm.lg x.1) * al (8191 - Gfm.lg x.1) = 1 := by rw [← al_add, show Gfm.lg x.1 + (8191 - Gfm.lg x.1) = 8191 by omega, al_order]
    exact (congrArg (fun y => y * al (8191 - Gfm.lg x.1)) (lg_al hx)).symm.trans e
  · rw [h1]
    have e : invN x.1 = (al (8191 - Gfm.lg x.1)).1 := by unfold invN; rw [if_neg (by omega), al_val]
    rw [e]
theorem xor_F (x y : F) : bits .xor .i64 (x.1 : Int) (y.1 : Int) = ((x + y).1 : Int) := i64_xor_nat _ _ (by have := x.2; omega) (by have := y.2; omega)
/-- a beginning of a slice of int of the call's own -/
theorem OwnI.head {w : World} {B : Nat} {v : Value} {xs : List Int} (h : OwnI w B v xs) (h0 : 0 < xs.length) (k : Nat) (hk : k ≤ xs.length) :
    ∃ g cap, v = .slice (some ⟨g, 0, none⟩) xs.length cap ∧ xs.length ≤ cap ∧ B ≤ g ∧ OwnI w B (.slice (some ⟨g, 0, none⟩) k cap) (xs.take k) := by
  obtain ⟨hl, h⟩ := h
  rcases h with ⟨_, h2⟩ | ⟨g, cap, cur, rfl, hb, hg, hnc, hcm, hsz, htake⟩
  · omega
  · have hk' : (xs.take k).length = k := by rw [List.length_take]; omega
    unfold OwnI
    rw [hk']
    refine ⟨g, cap, rfl, hnc, hb, by simp [vals]; omega, .inr ⟨g, cap, cur, rfl, hb, hg, by omega, hcm, hsz, ?_⟩⟩
    have e : cur.toList.take (k * 1) = (cur.toList.take (xs.length * 1)).take k := by rw [List.take_take]; congr 1; omega
    rw [e, htake]
    simp [vals, List.map_take]
theorem OwnI.far {w w' : World} {B c : Nat} {v : Value} {xs : List Int} (h : OwnI w B v xs) (hc : c < B) (hu : Upd (oneBlock c) w w') : OwnI w' B v xs := h.upd hu fun g hg e => by have := h.lt g hg; have e' : g = c := e; omega
set_option maxRecDepth 100000 in
set_option maxHeartbeats 3200000 in
theorem gap_any (c t : Nat) (k : Int) (C S : Nat → F) (N n B : Nat) (v v' : Value) (w : World) (h : MadeB B w c t k) (hr : OwnI w B v (il N C)) (hs : OwnI w B v' (il (n + 1) S)) (hN0 : 0 < N) (hN : N ≤ 1000) (hn : n ≤ 1000) (hC : ∀ i, N ≤ i → C i = 0) :
    Calls Tryz.prog 131 #[.pointer (some ⟨c, 0, none⟩), v, v'] w fun e w' => e = .returned (.int .i64 ((cv C S n).1 : Int)) ∧ MadeB B w' c t k ∧ Upd (oneBlock c) w w' := by
  have hcB := h.lt
  have HM := Lib.hid h
  obtain ⟨mn, hmn⟩ : ∃ mn, min N (n + 1) = mn := ⟨_, rfl⟩
  have HG := Lib.hid (gp_all C S n N hC)
  rw [hmn] at HG
  have HGS : Hid (∀ j, gp C S n (j + 1) = gp C S n j + C j * S (n - j)) := fun j => rfl
  have HG0 : Hid (gp C S n 0 = 0) := rfl
  have HMUL := Lib.hid (fun x y W hW => mul_F B c t k x y W hW)
  have HR := Lib.hid hr
  have HS := Lib.hid hs
  obtain ⟨g, cap, rfl, hg, _, _, _, _⟩ := hr.cells (by rw [il_length]; exact hN0)
  obtain ⟨g', cap', rfl, hg', _, _, _, _⟩ := hs.cells (by rw [il_length]; omega)
  rw [il_length] at HR
  rw [il_length] at HS
  rw [il_length, il_length]
  have hmin : min (N : Int) ((n + 1 : Nat) : Int) = (mn : Int) := by omega
  have hm1 : mn ≤ N := by omega
  have hm2 : mn ≤ n + 1 := by omega
  have HMN : Hid (min N (n + 1) = mn) := hmn
  clear h hr hs hmn
  go_enter Tryz.func131, Tryz.ntmps131
  obtain ⟨n1, hn1⟩ : ∃ n1, n + 1 = n1 := ⟨_, rfl⟩
  have HN1 : Hid (n + 1 = n1) := hn1
  rw [hn1] at HS hmin hm2 ⊢
  have hn1b : n1 ≤ 1001 := by omega
  clear hn1
  go_wp2
  go_loopw [7, 14] (fun s i wr => ∃ j : Nat, j ≤ mn ∧ i = .int .i64 (j : Int) ∧ s = .int .i64 ((gp C S n j).1 : Int) ∧ Hid (MadeB B wr c t k) ∧ Hid (Upd (oneBlock c) w wr)) (fun _ i _ => mn - (intOf i).toNat)
  case atStart => exact ⟨0, Nat.zero_le _, rfl, rfl, HM, Upd.refl _ _⟩
  case round =>
    clear HM
    obtain ⟨j, hj, rfl, rfl, HM, HU⟩ := hrel
    by_cases h0 : j < mn
    · have HMU := Lib.hid (fun W hW => HMUL.out (C j) (S (n - j)) W hW)
      have HX := xor_F (gp C S n j) (C j * S (n - j))
      have HNX := Lib.hid (HGS.out j)
      obtain ⟨_, _, e1, _, _, q1, _, _⟩ := (HR.out.far hcB HU.out).cells (by rw [il_length]; exact hN0)
      obtain ⟨_, _, e2, _, _, q2, _, _⟩ := (HS.out.far hcB HU.out).cells (by rw [il_length]; have := HN1.out; omega)
      rw [il_length] at e1 e2 q1 q2
      cases e1
      cases e2
      have p1 := q1 j (by omega)
      have p2 := q2 (n - j) (by have := HN1.out; omega)
      rw [il_getD N C j (by omega)] at p1
      rw [il_getD n1 S (n - j) (by have := HN1.out; omega)] at p2
      clear q1 q2
      have d1 : wr.drew.cell? ⟨g, j, none⟩ = _ := p1
      have d2 : wr.drew.cell? ⟨g', n - j, none⟩ = _ := p2
      obtain ⟨m, hm⟩ : ∃ m, n - j = m := ⟨_, rfl⟩
      have hw1 : IntKind.i64.wrap ((n1 : Int) - 1) = (n1 : Int) - 1 := by rw [IntKind.wrap_i64]; omega
      have hw2 : IntKind.i64.wrap ((n1 : Int) - 1 - (j : Int)) = (m : Int) := by have := HN1.out; rw [IntKind.wrap_i64]; omega
      have hmn1 : m < n1 := by have := HN1.out; omega
      have hjN : j < N := by omega
      have hM1 : Hid (MadeB B wr.drew c t k) := HM.out.grow ((Upd.refl noBlock wr).drew)
      rw [hm] at HMU HX HNX p2 d2
      clear hm
      generalize gp C S n j = s0 at *
      go_wp2_with fail
      go_region_with (go_at_call 134; (with_reducible refine (HMU.out _ hM1.out).mono ?_); rintro e w2 ⟨rfl, hm2, hu2⟩; have M2 := Lib.hid hm2; have U2 := Lib.hid hu2; clear hm2 hu2)
      all_goals
        go_wp2
        go_roundw
        case rel => exact ⟨j + 1, by omega, by go_num, congrArg (fun z : F => Value.int .i64 (z.1 : Int)) HNX.out.symm, M2, HU.out.drew.trans U2.out⟩
        case measure => simp [intOf]; omega
    · obtain rfl : j = mn := by omega
      go_wp2
      go_ret
      exact ⟨congrArg (fun z : F => Ending.returned (Value.int .i64 (z.1 : Int))) HG.out, HM.out, HU.out⟩
end Go.Proofs.YtnppjfaecnikpaaGreatDoor

/- The exponents of a remainder. -/
namespace Go.Proofs.YtnppjfaecnikpaaGreatDoor
open Go.RowKit Pm
set_option linter.unusedVariables false

theorem top_at {x t : Nat} (h1 : 2 ^ t ≤ x) (h2 : x < 2 ^ (t + 1)) : x.testBit t = true ∧ ∀ i, t < i → x.testBit i = false := by
  refine ⟨?_, fun i hi => Nat.testBit_lt_two_pow (Nat.lt_of_lt_of_le h2 (Nat.pow_le_pow_right (by omega) hi))⟩
  rw [Nat.testBit_eq_decide_div_mod_eq]
  have h3 : x / 2 ^ t = 1 := by
    rw [Nat.pow_succ] at h2
    exact Nat.le_antisymm (Nat.le_of_lt_succ ((Nat.div_lt_iff_lt_mul (Nat.two_pow_pos t)).2 (by omega))) ((Nat.le_div_iff_mul_le (Nat.two_pow_pos t)).2 (by omega))
  rw [h3]; rfl
/-- the first bit that is set -/
theorem first_high {r : Rm} (hr : r.Ok) (h : r.h ≠ 0) : ∃ n : Nat, n < 64 ∧ ((64 : Int) - (Lib.bitLen r.h : Int) = ((n : Nat) : Int)) ∧ rb r n = true ∧ ∀ j, j < n → rb r j = false := by
  obtain ⟨t, ht, e, l, u⟩ := bitLen_spec r.h (by omega) (by rw [two64]; exact hr.1)
  obtain ⟨k1, k2⟩ := top_at l u
  refine ⟨63 - t, by omega, by rw [e]; omega, ?_, fun j hj => ?_⟩
  · rw [rb_lo _ _ (by omega), show 63 - (63 - t) = t by omega]; exact k1
  · rw [rb_lo _ _ (by omega)]; exact k2 _ (by omega)
theorem first_low {r : Rm} (hr : r.Ok) (h : r.h = 0) (hl : r.l ≠ 0) : ∃ n : Nat, 64 ≤ n ∧ n < 128 ∧ (64 : Int) - (Lib.bitLen r.l : Int) = ((n - 64 : Nat) : Int) ∧ rb r n = true ∧ ∀ j, j < n → rb r j = false := by
  obtain ⟨t, ht, e, l, u⟩ := bitLen_spec r.l (by omega) (by rw [two64]; exact hr.2)
  obtain ⟨k1, k2⟩ := top_at l u
  refine ⟨127 - t, by omega, by omega, by rw [e]; omega, ?_, fun j hj => ?_⟩
  · rw [rb_mid _ _ (by omega) (by omega), show 127 - (127 - t) = t by omega]; exact k1
  · by_cases h1 : j < 64
    · rw [rb_lo _ _ h1, h]; exact Nat.zero_testBit _
    · rw [rb_mid _ _ h1 (by omega)]; exact k2 _ (by omega)
/-- the exponents of the first q bits -/
def exq (r : Rm) (d : Nat) : Nat → List Int | 0 => [] | q + 1 => if rb r q then exq r d q ++ [((d - 1 - q : Nat) : Int)] else exq r d q
theorem exq_length (r : Rm) (d q : Nat) : (exq r d q).length ≤ q := by
  induction q with
  | zero => exact Nat.le_refl _
  | succ q ih =>
    unfold exq
    split
    · rw [List.length_append]; simp; exact ih
    · omega
theorem exq_skip (r : Rm) (d q m : Nat) (h : ∀ j, q ≤ j → j < q + m → rb r j = false) : exq r d (q + m) = exq r d q := by
  induction m with
  | zero => rfl
  | succ m ih =>
    show (if rb r (q + m) then _ else exq r d (q + m)) = _
    rw [h (q + m) (by omega) (by omega), ih fun j h1 h2 => h j h1 (by omega)]
    rfl
/-- the first q bits cleared -/
def Clr (r cur : Rm) (q : Nat) : Prop := cur.Ok ∧ ∀ j, j < 128 → rb cur j = (decide (q ≤ j) && rb r j)
theorem Clr.next {r cur : Rm} {d q n : Nat} (h : Clr r cur q) (hn : n < 128) (hb : rb cur n = true) (hf : ∀ j, j < n → rb cur j = false) :
    Clr r (cur.plus (Rm.bit n)) (n + 1) ∧ exq r d (n + 1) = exq r d q ++ [((d - 1 - n : Nat) : Int)] ∧ q ≤ n ∧ rb r n = true := by
  have hq : q ≤ n ∧ rb r n = true := by
    have := h.2 n hn
    rw [hb] at this
    have := (Bool.and_eq_true_iff ..).1 this.symm
    exact ⟨of_decide_eq_true this.1, this.2⟩
  refine ⟨⟨h.1.plus (Rm.bit_ok _ hn), fun j hj => ?_⟩, ?_, hq⟩
  · rw [rb_plus, rb_bit _ _ hn]
    by_cases e : j = n
    · rw [e, hb, decide_eq_true rfl, decide_eq_false (by omega)]; rfl
    · rw [decide_eq_false e]
      by_cases hl : j < n
      · rw [hf j hl, decide_eq_false (by omega)]; rfl
      · rw [h.2 j hj, decide_eq_true (show q ≤ j by omega), decide_eq_true (show n + 1 ≤ j by omega)]
        cases rb r j <;> rfl
  · show (if rb r n then exq r d n ++ _ else _) = _
    rw [hq.2, if_pos rfl]
    congr 1
    obtain ⟨m, rfl⟩ : ∃ m, n = q + m := ⟨n - q, by omega⟩
    refine exq_skip r d q m fun j h1 h2 => ?_
    have := h.2 j (by omega)
    rw [hf j h2, decide_eq_true h1] at this
    exact this.symm
theorem Clr.stop {r cur : Rm} {d q : Nat} (h : Clr r cur q) (hz : cur = Rm.zero) (hd : d ≤ 128) (hr : ∀ j, d ≤ j → rb r j = false) (hq : q ≤ d) : exq r d d = exq r d q := by
  obtain ⟨m, rfl⟩ : ∃ m, d = q + m := ⟨d - q, by omega⟩
  refine exq_skip r _ q m fun j h1 h2 => ?_
  have := h.2 j (by omega)
  rw [hz, rb_zero, decide_eq_true h1] at this
  exact this.symm
def slen (v : Value) : Nat := match v with | .slice _ n _ => n | _ => 0
theorem OwnI.slen {w : World} {B : Nat} {v : Value} {xs : List Int} (h : OwnI w B v xs) : slen v = xs.length := by
  obtain ⟨a, c, rfl, _⟩ := h.sl; rfl
set_option maxRecDepth 100000 in
set_option maxHeartbeats 3200000 in
theorem exponents_any (r : Rm) (d : Nat) (w : World) (hr : r.Ok) (hd : d ≤ 120) (hz : ∀ j, d ≤ j → rb r j = false) :
    Calls Tryz.prog 136 #[r.agg, .int .i64 (d : Int)] w fun e w' => ∃ v, e = .returned v ∧ OwnI w' w.heap.size v (exq r d d) ∧ Upd noBlock w w' := by
  obtain ⟨i0, hi0, hz0, hz1, hz2⟩ := intPartsI
  have HC0 : Hid (Clr r r 0) := ⟨hr, fun j _ => by rw [decide_eq_true (Nat.zero_le _), Bool.true_and]⟩
  have HZ := Lib.hid hz
  clear hr hz
  unfold Rm.agg
  go_enter Tryz.func136, Tryz.ntmps136
  go_wp2_with fail
  obtain ⟨wa, hwa⟩ : ∃ wa, wa = w.alloc (.cells #[.int .u64 (r.h : Int), .int .u64 (r.l : Int)] 129) := ⟨_, rfl⟩
  have U0 : Hid (Upd noBlock w wa) := by rw [hwa]; exact (Upd.refl _ _).alloc _
  have B0 : Hid (RB wa w.heap.size r) := by rw [hwa]; exact heap_alloc_new w _
  rw [← hwa]
  clear hwa
  go_loopw [5] (fun v wr => ∃ (q : Nat) (cur : Rm), q ≤ d ∧ Hid (OwnI wr (w.heap.size + 1) v (exq r d q)) ∧ Hid (RB wr w.heap.size cur) ∧ Hid (Clr r cur q) ∧ Hid (Upd noBlock w wr)) (fun v _ => 200 - slen v)
  case atStart => exact ⟨0, _, Nat.zero_le _, OwnI.nil _ _, B0, HC0, U0⟩
  case round =>
    clear B0 HC0 U0
    obtain ⟨q, cur, hq, HO, HB, HC, HU⟩ := hrel
    have hok := HC.out.1
    by_cases hzero : cur.h = 0 ∧ cur.l = 0
    · obtain ⟨ch, cl⟩ := cur
      obtain ⟨rfl, rfl⟩ : ch = 0 ∧ cl = 0 := hzero
      have HE := Lib.hid (HC.out.stop rfl (by omega) HZ.out hq)
      have k1 := HB.out.h
      have k2 := HB.out.l
      go_wp2
      go_ret
      exact ⟨_, rfl, by rw [HE.out]; exact HO.out.more (Nat.le_succ _), HU.out⟩
    · have key : ∃ n : Nat, n < 128 ∧ rb cur n = true ∧ (∀ j, j < n → rb cur j = false) ∧ ((cur.h ≠ 0 ∧ (64 : Int) - (Lib.bitLen cur.h : Int) = (n : Int)) ∨ (cur.h = 0 ∧ cur.l ≠ 0 ∧ 64 ≤ n ∧ (64 : Int) - (Lib.bitLen cur.l : Int) = ((n - 64 : Nat) : Int))) := by
        by_cases hh : cur.h = 0
        · obtain ⟨n, h1, h2, h3, h4, h5⟩ := first_low hok hh (fun e => hzero ⟨hh, e⟩)
          exact ⟨n, h2, h4, h5, .inr ⟨hh, fun e => hzero ⟨hh, e⟩, h1, h3⟩⟩
        · obtain ⟨n, h1, h2, h3, h4⟩ := first_high hok hh
          exact ⟨n, by omega, h3, h4, .inl ⟨hh, h2⟩⟩
      obtain ⟨n, hn, hbn, hbf, hcase⟩ := key
      obtain ⟨HC2, hex, hqn, hrn⟩ := HC.out.next (d := d) hn hbn hbf
      have hnd : n < d := by
        by_cases h : n < d
        · exact h
        · rw [HZ.out n (by omega)] at hrn; cases hrn
      have HC3 := Lib.hid HC2
      have HNX := Lib.hid hex
      have HLEN : Hid ((exq r d q).length ≤ 120) := by have := exq_length r d q; show _ ≤ _; omega
      have hbok := Rm.bit_ok n hn
      have HBIT := Lib.hid (fun W => bitAt_any n W hn)
      have HPL := Lib.hid (fun W => plus_any cur (Rm.bit n) W hok hbok)
      have HLZ : Hid (∀ (x : Nat) (v : Int) W, x < 18446744073709551616 → (64 : Int) - (Lib.bitLen x : Int) = v → Calls Tryz.prog 150 #[.int .u64 (x : Int)] W fun e w' => e = .returned (.int .i64 v) ∧ W = w') := fun x v W h hv => (Tryz.bits_LeadingZeros64 (x : Int) W (by omega) (by omega)).mono fun e w' ⟨h1, h2⟩ => ⟨by rw [h1, Int.toNat_natCast, hv], h2.symm⟩
      have hw1 : IntKind.i64.wrap ((d : Int) - 1) = (d : Int) - 1 := by rw [IntKind.wrap_i64]; omega
      obtain ⟨z, hz⟩ : ∃ z : Nat, d - 1 - n = z := ⟨_, rfl⟩
      have hw2 : IntKind.i64.wrap ((d : Int) - 1 - (n : Int)) = (z : Int) := by rw [IntKind.wrap_i64]; omega
      rw [hz] at HNX
      generalize exq r d q = L at *
      generalize hrr : cur.plus (Rm.bit n) = nxt at *
      have HO2 := Lib.hid (HO.out.grow ((Upd.refl noBlock wr).alloc (.cells #[.int .i64 (z : Int)] 3)))
      have HU2 := Lib.hid (HU.out.alloc (.cells #[.int .i64 (z : Int)] 3))
      have HB2 := Lib.hid (block_alloc HB.out (.cells #[.int .i64 (z : Int)] 3))
      have HI := Lib.hid (ints_one wr (z : Int))
      have hbase := HU.out.size
      have hlt := lt_of_block HB.out
      have HAFT : Hid (∀ w3 own, (wr.alloc (.cells #[.int .i64 (z : Int)] 3)).grownBy w3 own → (∀ i, own = some i → w.heap.size + 1 ≤ i) → RB w3 w.heap.size cur ∧ Upd noBlock w w3) := fun w3 own hg ho =>
        ⟨(hg.block w.heap.size (by rw [World.size_alloc]; omega) (fun e => by have := ho _ e.symm; omega)).trans HB2.out, upd_of_grown HU2.out hg (fun i hi => .inr (by have := ho i hi; omega))⟩
      have HST : Hid (∀ W v, OwnI W (w.heap.size + 1) v (L ++ [(z : Int)]) → RB W w.heap.size cur → Upd noBlock w W → ∀ W2, Upd noBlock W W2 → OwnI ((W2.setCell ⟨w.heap.size, 0, none⟩ (.int .u64 (nxt.h : Int))).setCell ⟨w.heap.size, 1, none⟩ (.int .u64 (nxt.l : Int))) (w.heap.size + 1) v (L ++ [(z : Int)]) ∧ RB ((W2.setCell ⟨w.heap.size, 0, none⟩ (.int .u64 (nxt.h : Int))).setCell ⟨w.heap.size, 1, none⟩ (.int .u64 (nxt.l : Int))) w.heap.size nxt ∧ Upd noBlock w ((W2.setCell ⟨w.heap.size, 0, none⟩ (.int .u64 (nxt.h : Int))).setCell ⟨w.heap.size, 1, none⟩ (.int .u64 (nxt.l : Int)))) := fun W v hO hB hU W2 h2 =>
        ⟨hO.upd ((((h2.one : Upd (oneBlock w.heap.size) W W2).setCell (p := ⟨w.heap.size, 0, none⟩) (.inl rfl) _)).setCell (p := ⟨w.heap.size, 1, none⟩) (.inl rfl) _) (fun g hg e => by have := hO.lt g hg; have e' : g = w.heap.size := e; omega), (hB.grow h2).set _, ((hU.trans h2).setCell (p := ⟨w.heap.size, 0, none⟩) (.inr (Nat.le_refl _)) _).setCell (p := ⟨w.heap.size, 1, none⟩) (.inr (Nat.le_refl _)) _⟩
      have k1 := HB.out.h
      have k2 := HB.out.l
      clear hzero hbn hbf HC2 hex hz hrn
      rcases hcase with ⟨hh, hl⟩ | ⟨hh, hl0, hn64, hl⟩
      · have hc1 : ((cur.h : Int) == 0) = false := beq_eq_false_iff_ne.2 (by omega)
        have HL1 := Lib.hid (fun W => HLZ.out cur.h _ W hok.1 hl)
        clear hl HLZ
        go_wp2_with (first
          | (go_at_call 150; (with_reducible refine (HL1.out _).mono ?_); rintro e w' ⟨rfl, rfl⟩)
          | (at_builtin; refine wpList_append_ints _ rfl (.tmp 21) (.tmp 26) _ rfl (w.heap.size + 1) 3 i0 _ Tryz.underlying59 hi0 hz0 hz1 hz2 rfl _ L.length (vals L) rfl HO2.out (wr.heap.size + 1) (some ⟨wr.heap.size, 0, none⟩) 1 1 [(z : Int)] rfl HI.out (by have := HLEN.out; simp only [maxLen]; omega) (by have := HLEN.out; omega) (by simp; omega) ?_; intro v3 w3 hown3 hg3 _; have F3 := Lib.hid (HAFT.out _ _ hg3 (fun i hi => HO2.out.lt i hi)); have O3 := Lib.hid (OwnI.snoc rfl hown3); have b1 := F3.out.1.h; have b2 := F3.out.1.l; have d1 : w3.drew.cell? ⟨w.heap.size, 0, none⟩ = _ := F3.out.1.h; have d2 : w3.drew.cell? ⟨w.heap.size, 1, none⟩ = _ := F3.out.1.l; have e1 : w3.drew.frozen? ⟨w.heap.size, 0, none⟩ = false := F3.out.1.f 0; have e2 : w3.drew.frozen? ⟨w.heap.size, 1, none⟩ = false := F3.out.1.f 1; have HRB := Lib.hid (fun W (hW : Upd noBlock w3 W) => F3.out.1.grow hW); clear hown3 hg3))
        unfold Rm.agg at HBIT HPL
        go_region_with (first
          | (go_at_call 104; refine (HBIT.out _).mono ?_; rintro e w4 ⟨rfl, u4⟩; have v4 := ((Upd.refl noBlock w3).drew).trans u4; have k2' := (HRB.out w4 v4).h; have k3' := (HRB.out w4 v4).l)
          | (go_at_call 94; refine (HPL.out _).mono ?_; rintro e w5 ⟨rfl, u5⟩; have v5 := v4.trans u5; have k6 := (HRB.out w5 v5).h; have k7 := (HRB.out w5 v5).l; have k8 := (HRB.out w5 v5).f 0; have k9 := (HRB.out w5 v5).f 1))
        all_goals
          have hfin := HST.out _ _ O3.out F3.out.1 F3.out.2 w5 v5
          have G1 := Lib.hid hfin.1
          have G2 := Lib.hid hfin.2.1
          have G3 := Lib.hid hfin.2.2
          have HSL := Lib.hid G1.out.slen
          have HSV := Lib.hid HO.out.slen
          clear hfin
          go_wp2
          go_roundw
          case rel => exact ⟨n + 1, nxt, by omega, by rw [HNX.out]; exact G1, G2, HC3, G3⟩
          case measure => rw [HSL.out, HSV.out, List.length_append]; have := HLEN.out; show 200 - (_ + 1) < _; omega
      · have hc1 : ((cur.l : Int) == 0) = false := beq_eq_false_iff_ne.2 (by omega)
        have HL1 : Hid (∀ W, Calls Tryz.prog 150 #[.int .u64 0] W fun e w' => e = .returned (.int .i64 64) ∧ W = w') := fun W => HLZ.out 0 64 W (by omega) (by decide)
        have HL2 := Lib.hid (fun W => HLZ.out cur.l _ W hok.2 hl)
        have hw3 : IntKind.i64.wrap ((64 : Int) + ((n - 64 : Nat) : Int)) = (n : Int) := by rw [IntKind.wrap_i64]; omega
        have hh0 : (cur.h : Int) = 0 := by omega
        rw [hh0] at k1
        clear hl HLZ hh0 hh
        go_wp2_with (first
          | (go_at_call 150; (with_reducible refine (HL1.out _).mono ?_); rintro e w' ⟨rfl, rfl⟩)
          | (go_at_call 150; (with_reducible refine (HL2.out _).mono ?_); rintro e w' ⟨rfl, rfl⟩)
          | (at_builtin; refine wpList_append_ints _ rfl (.tmp 21) (.tmp 26) _ rfl (w.heap.size + 1) 3 i0 _ Tryz.underlying59 hi0 hz0 hz1 hz2 rfl _ L.length (vals L) rfl HO2.out (wr.heap.size + 1) (some ⟨wr.heap.size, 0, none⟩) 1 1 [(z : Int)] rfl HI.out (by have := HLEN.out; simp only [maxLen]; omega) (by have := HLEN.out; omega) (by simp; omega) ?_; intro v3 w3 hown3 hg3 _; have F3 := Lib.hid (HAFT.out _ _ hg3 (fun i hi => HO2.out.lt i hi)); have O3 := Lib.hid (OwnI.snoc rfl hown3); have b1 := F3.out.1.h; have b2 := F3.out.1.l; have d1 : w3.drew.cell? ⟨w.heap.size, 0, none⟩ = _ := F3.out.1.h; have d2 : w3.drew.cell? ⟨w.heap.size, 1, none⟩ = _ := F3.out.1.l; have e1 : w3.drew.frozen? ⟨w.heap.size, 0, none⟩ = false := F3.out.1.f 0; have e2 : w3.drew.frozen? ⟨w.heap.size, 1, none⟩ = false := F3.out.1.f 1; have HRB := Lib.hid (fun W (hW : Upd noBlock w3 W) => F3.out.1.grow hW); clear hown3 hg3))
        unfold Rm.agg at HBIT HPL
        go_region_with (first
          | (go_at_call 104; refine (HBIT.out _).mono ?_; rintro e w4 ⟨rfl, u4⟩; have v4 := ((Upd.refl noBlock w3).drew).trans u4; have k2' := (HRB.out w4 v4).h; have k3' := (HRB.out w4 v4).l)
          | (go_at_call 94; refine (HPL.out _).mono ?_; rintro e w5 ⟨rfl, u5⟩; have v5 := v4.trans u5; have k6 := (HRB.out w5 v5).h; have k7 := (HRB.out w5 v5).l; have k8 := (HRB.out w5 v5).f 0; have k9 := (HRB.out w5 v5).f 1))
        all_goals
          have hfin := HST.out _ _ O3.out F3.out.1 F3.out.2 w5 v5
          have G1 := Lib.hid hfin.1
          have G2 := Lib.hid hfin.2.1
          have G3 := Lib.hid hfin.2.2
          have HSL := Lib.hid G1.out.slen
          have HSV := Lib.hid HO.out.slen
          clear hfin
          go_wp2
          go_roundw
          case rel => exact ⟨n + 1, nxt, by omega, by rw [HNX.out]; exact G1, G2, HC3, G3⟩
          case measure => rw [HSL.out, HSV.out, List.length_append]; have := HLEN.out; show 200 - (_ + 1) < _; omega
end Go.Proofs.YtnppjfaecnikpaaGreatDoor

/- trimmed, bits, isRoot. -/
namespace Go.Proofs.YtnppjfaecnikpaaGreatDoor
open Go.RowKit Pm F
set_option linter.unusedVariables false

set_option maxRecDepth 100000 in
set_option maxHeartbeats 1600000 in
theorem trimmed_any (C : Nat → F) (N B : Nat) (v : Value) (w : World) (hr : OwnI w B v (il N C)) (hN0 : 0 < N) (hN : N ≤ 2000) (hC0 : C 0 ≠ 0) :
    Calls Tryz.prog 135 #[v] w fun e w' => ∃ m u, e = .returned u ∧ 1 ≤ m ∧ m ≤ N ∧ C (m - 1) ≠ 0 ∧ (∀ i, m ≤ i → i < N → C i = 0) ∧ OwnI w' B u (il m C) ∧ Upd noBlock w w' := by
  obtain ⟨i0, hi0, hz0, hz1, hz2⟩ := intPartsI
  have HR := Lib.hid hr
  have HC0 := Lib.hid hC0
  obtain ⟨g, cap, rfl, hg, _, _, _, _⟩ := hr.cells (by rw [il_length]; exact hN0)
  have hcap := own_cap hr
  rw [il_length] at HR hcap
  rw [il_length]
  have HHEAD : Hid (∀ W k, Upd noBlock w W → 0 < k → k ≤ N → OwnI W B (.slice (some ⟨g, 0, none⟩) k cap) (il k C)) := fun W k hW h0 hk => by
    obtain ⟨_, _, e, _, _, ho⟩ := (HR.out.grow hW).head (by rw [il_length]; exact hN0) k (by rw [il_length]; exact hk)
    rw [il_length] at e
    cases e
    rw [il_take N k C hk] at ho
    exact ho
  have HSL : Hid (∀ (n k : Nat) (w : World), k ≤ n → n ≤ cap → 0 < n → (Instr.sliceAt 59 (.slice (some ⟨g, 0, none⟩) n cap) none (some (.int .i64 (k : Int))) none).run Tryz.prog w = .ok (.slice (some ⟨g, 0, none⟩) k cap) w) := fun n k w hk hn h0 => by
    have := Doc.run_slice_lo w 59 3 i0 Tryz.underlying59 hi0 (some ⟨g, 0, none⟩) n cap k hk hn
    rw [if_neg (by omega)] at this
    exact this
  clear hr hC0
  go_enter Tryz.func135, Tryz.ntmps135
  go_wp2
  go_loopw [0] (fun v wr => ∃ m : Nat, 1 ≤ m ∧ m ≤ N ∧ v = .slice (some ⟨g, 0, none⟩) m cap ∧ Hid (∀ i, m ≤ i → i < N → C i = 0) ∧ Hid (Upd noBlock w wr)) (fun v _ => slen v)
  case atStart => exact ⟨N, hN0, Nat.le_refl _, rfl, fun i h1 h2 => absurd h2 (by omega), Upd.refl _ _⟩
  case round =>
    obtain ⟨m, hm1, hm2, rfl, HZ, HU⟩ := hrel
    obtain ⟨_, _, e1, _, _, q1, _, _⟩ := (HHEAD.out wr m HU.out hm1 hm2).cells (by rw [il_length]; exact hm1)
    rw [il_length] at e1 q1
    cases e1
    obtain ⟨q, rfl⟩ : ∃ q, m = q + 1 := ⟨m - 1, by omega⟩
    have p1 := q1 q (by omega)
    rw [il_getD _ C q (by omega)] at p1
    obtain ⟨n1, hn1⟩ : ∃ n1, q + 1 = n1 := ⟨_, rfl⟩
    have hw1 : IntKind.i64.wrap ((n1 : Int) - 1) = (q : Int) := by rw [IntKind.wrap_i64]; omega
    have hn0 : 0 < n1 := by omega
    have hq1 : q < n1 := by omega
    have hn2 : n1 ≤ 2000 := by omega
    clear q1
    by_cases hz : C q = 0
    · have hq0 : 0 < q := by
        rcases Nat.eq_zero_or_pos q with h | h
        · exact absurd (h ▸ hz) HC0.out
        · exact h
      have p2 : wr.cell? ⟨g, q, none⟩ = some (.int .i64 0) := by rw [p1, hz]; rfl
      have hsl := HSL.out n1 q
      have hsl2 := fun w => hsl w (by omega) (by omega) hn0
      clear p1 hsl
      rw [hn1]
      go_wp2
      go_roundw
      case rel => exact ⟨q, hq0, by omega, rfl, fun i h1 h2 => by
        by_cases e : i = q
        · rw [e, hz]
        · exact HZ.out i (by omega) h2, HU⟩
      case measure => show q < n1; omega
    · have hx : ¬ (C q).1 = 0 := fun e => hz (F.ext e)
      have HFIN := Lib.hid (HHEAD.out wr (q + 1) HU.out hm1 hm2)
      have HZ1 := Lib.hid hz
      obtain ⟨x, hxe⟩ : ∃ x, (C q).1 = x := ⟨_, rfl⟩
      rw [hxe] at p1 hx
      have hx0 : ((x : Int) == 0) = false := beq_eq_false_iff_ne.2 (by omega)
      rw [hn1] at HFIN ⊢
      clear hxe hz
      go_wp2
      go_ret
      exact ⟨n1, _, rfl, by omega, by omega, by rw [← hn1, Nat.add_sub_cancel]; exact HZ1.out, by rw [← hn1]; exact HZ.out, HFIN.out, HU.out⟩
set_option maxRecDepth 100000 in
set_option maxHeartbeats 1600000 in
theorem bits_any (B c t k : Nat) (w : World) (h : MadeB B w c t (k : Int)) (hk : k ≤ 256) (ht8 : t ≤ 8) :
    Calls Tryz.prog 96 #[.pointer (some ⟨c, 0, none⟩)] w fun e w' => e = .returned (.int .i64 ((8 * k + 13 * t : Nat) : Int)) ∧ Upd noBlock w w' := by
  have HM := Lib.hid h
  obtain ⟨d, hd⟩ : ∃ d, 13 * t = d := ⟨_, rfl⟩
  have k1 : w.drew.cell? ⟨c, 1, none⟩ = some (.int .i64 (k : Int)) := h.made.k
  have k2 : w.drew.cell? ⟨c, 11, none⟩ = some (.int .i64 (d : Int)) := by rw [← hd]; exact h.made.deg
  have k3 : w.cell? ⟨c, 1, none⟩ = some (.int .i64 (k : Int)) := h.made.k
  have k4 : w.cell? ⟨c, 11, none⟩ = some (.int .i64 (d : Int)) := by rw [← hd]; exact h.made.deg
  have hw1 : IntKind.i64.wrap (8 * (k : Int)) = 8 * (k : Int) := by rw [IntKind.wrap_i64]; omega
  have hw2 : IntKind.i64.wrap (8 * (k : Int) + (d : Int)) = ((8 * k + d : Nat) : Int) := by rw [IntKind.wrap_i64]; omega
  rw [hd]
  generalize 8 * k + d = z at *
  clear h hd
  go_enter Tryz.func96, Tryz.ntmps96
  go_wp2
  go_quiet (fail)
  go_wp2
  go_ret
  exact ⟨rfl, (Upd.refl noBlock w).drewN _⟩
/-- a row of numbers -/
def irow (N : Nat) (g : Nat → Int) : List Int := (List.range N).map g
theorem irow_length (N : Nat) (g : Nat → Int) : (irow N g).length = N := by simp [irow]
theorem irow_getD (N : Nat) (g : Nat → Int) (i : Nat) (h : i < N) : (irow N g).getD i 0 = g i := by simp [irow, List.getD_eq_getElem?_getD, h]
theorem irow_congr {N : Nat} {f g : Nat → Int} (h : ∀ p, p < N → f p = g p) : irow N f = irow N g := List.map_congr_left fun p hp => h p (List.mem_range.1 hp)
theorem irow_set (N : Nat) (g : Nat → Int) (q : Nat) (x : Int) : (irow N g).set q x = irow N fun i => if i = q then x else g i := by
  apply List.ext_getElem
  · rw [List.length_set, irow_length, irow_length]
  · intro p h1 h2
    rw [List.getElem_set]
    simp only [irow, List.getElem_map, List.getElem_range]
    split
    · rename_i e; rw [if_pos e.symm]
    · rename_i e; rw [if_neg (fun h => e h.symm)]
theorem lgI_zero : lgI 0 = -1 := if_pos rfl
theorem lgI_ne {x : F} (h : x ≠ 0) : lgI x = (Gfm.lg x.1 : Int) := if_neg h
theorem rtq_step (C : Nat → F) (p j : Nat) (h : C j ≠ 0) : rtq C p (j + 1) = rtq C p j + alI (lgI (C j) - (j : Int) * (p : Int)) := by
  show rtq C p j + C j * alI (-((j : Int) * (p : Int))) = _
  have e : alI (lgI (C j)) = C j := by rw [lgI_ne h, alI_nat]; exact lg_al h
  rw [Int.sub_eq_add_neg, alI_add, e]
theorem rtq_skip (C : Nat → F) (p j : Nat) (h : C j = 0) : rtq C p (j + 1) = rtq C p j := by
  show rtq C p j + C j * alI (-((j : Int) * (p : Int))) = _
  rw [h, zero_mul, add_zero]
set_option maxRecDepth 100000 in
set_option maxHeartbeats 1600000 in
theorem isRoot_any (B c t : Nat) (k : Int) (C : Nat → F) (m p : Nat) (v : Value) (w : World) (h : MadeB B w c t k) (hr : OwnI w B v (irow m fun i => lgI (C i))) (hm0 : 0 < m) (hm : m ≤ 100) (hp : p ≤ 100000) :
    Calls Tryz.prog 138 #[.pointer (some ⟨c, 0, none⟩), v, .int .i64 (p : Int)] w fun e w' => e = .returned (.bool (decide (rtq C p m = 0))) ∧ Upd noBlock w w' := by
  have HM0 := Lib.hid h
  have HR := Lib.hid hr
  obtain ⟨g, cap, rfl, _, _, _, _, _⟩ := hr.cells (by rw [irow_length]; exact hm0)
  rw [irow_length] at HR
  rw [irow_length]
  clear h hr
  go_enter Tryz.func138, Tryz.ntmps138
  go_wp2
  go_loopw [7, 12] (fun s i wr => ∃ j : Nat, j ≤ m ∧ i = .int .i64 (j : Int) ∧ s = .int .i64 ((rtq C p j).1 : Int) ∧ Hid (Upd noBlock w wr)) (fun _ i _ => m - (intOf i).toNat)
  case atStart => exact ⟨0, Nat.zero_le _, rfl, rfl, Upd.refl _ _⟩
  case round =>
    obtain ⟨j, hj, rfl, rfl, HU⟩ := hrel
    by_cases h0 : j < m
    · obtain ⟨_, _, e1, _, _, q1, _, _⟩ := (HR.out.grow HU.out).cells (by rw [irow_length]; exact hm0)
      rw [irow_length] at e1 q1
      cases e1
      have p1 := q1 j h0
      rw [irow_getD _ _ _ h0] at p1
      clear q1
      by_cases hz : C j = 0
      · have HNX := Lib.hid (rtq_skip C p j hz)
        have p2 : wr.cell? ⟨g, j, none⟩ = some (.int .i64 (-1)) := by rw [p1, hz, lgI_zero]
        clear p1 hz
        generalize rtq C p j = s0 at *
        go_wp2
        go_roundw
        case rel => exact ⟨j + 1, by omega, by go_num, congrArg (fun z : F => Value.int .i64 (z.1 : Int)) HNX.out.symm, HU⟩
        case measure => simp [intOf]; omega
      · have HNX := Lib.hid (rtq_step C p j hz)
        have hlg := Gfm.lg_lt (C j).1
        have p2 : wr.cell? ⟨g, j, none⟩ = some (.int .i64 (Gfm.lg (C j).1 : Int)) := by rw [p1, lgI_ne hz]
        rw [lgI_ne hz] at HNX
        obtain ⟨x, hx⟩ : ∃ x : Nat, Gfm.lg (C j).1 = x := ⟨_, rfl⟩
        rw [hx] at HNX p2 hlg
        have hw1 : IntKind.i64.wrap ((j : Int) * (p : Int)) = (j : Int) * (p : Int) := by
          have h1 : (0 : Int) ≤ (j : Int) * (p : Int) := Int.mul_nonneg (by omega) (by omega)
          have h2 : j * p ≤ 100 * 100000 := Nat.mul_le_mul (by omega) hp
          have h3 : (j : Int) * (p : Int) = ((j * p : Nat) : Int) := by rw [Int.natCast_mul]
          rw [IntKind.wrap_i64]; omega
        have hw2 : IntKind.i64.wrap ((x : Int) - (j : Int) * (p : Int)) = (x : Int) - (j : Int) * (p : Int) := by
          have h1 : (0 : Int) ≤ (j : Int) * (p : Int) := Int.mul_nonneg (by omega) (by omega)
          have h2 : j * p ≤ 100 * 100000 := Nat.mul_le_mul (by omega) hp
          have h3 : (j : Int) * (p : Int) = ((j * p : Nat) : Int) := by rw [Int.natCast_mul]
          rw [IntKind.wrap_i64]; omega
        have HX := xor_F (rtq C p j) (alI ((x : Int) - (j : Int) * (p : Int)))
        have HEX := Lib.hid (fun W (hW : Upd noBlock w W) => exp_F B c t k ((x : Int) - (j : Int) * (p : Int)) W (HM0.out.grow hW))
        have hw3 : wrap64 ((x : Int) - (j : Int) * (p : Int)) = (x : Int) - (j : Int) * (p : Int) := by
          rw [← hw2, IntKind.wrap_i64]; unfold wrap64; rw [IntKind.wrap_i64] at hw2; omega
        have hxge : decide ((x : Int) ≥ 0) = true := decide_eq_true (by omega)
        clear p1 hz hx
        generalize rtq C p j = s0 at *
        go_wp2_with (go_at_call 126; (with_reducible refine (HEX.out _ HU.out).mono ?_); rintro e w2 ⟨rfl, hu2⟩; have U2 := Lib.hid (HU.out.trans hu2); clear hu2)
        go_roundw
        case rel => exact ⟨j + 1, by omega, by go_num, congrArg (fun z : F => Value.int .i64 (z.1 : Int)) HNX.out.symm, U2⟩
        case measure => simp [intOf]; omega
    · obtain rfl : j = m := by omega
      have hfin : (((rtq C p j).1 : Int) == 0) = decide (rtq C p j = 0) := by
        by_cases e : rtq C p j = 0
        · rw [decide_eq_true e, e]; rfl
        · rw [decide_eq_false e]
          exact beq_eq_false_iff_ne.2 fun h => e (F.ext (by show (rtq C p j).1 = 0; omega))
      have HF := Lib.hid hfin
      clear hfin
      go_wp2
      go_ret
      exact ⟨congrArg (fun b => Ending.returned (Value.bool b)) HF.out, HU.out⟩
end Go.Proofs.YtnppjfaecnikpaaGreatDoor

/- The document's bits of a text, and the text of bits. -/
namespace Go.Proofs.YtnppjfaecnikpaaGreatDoor
open Go.RowKit Pm

set_option maxRecDepth 100000 in
set_option maxHeartbeats 3200000 in
theorem refBits_any (s : ByteArray) (w : World) (hs : s.size ≤ 1000) :
    Calls Tryz.prog 54 #[.string s] w fun e w' => ∃ v, e = .returned v ∧ OwnI w' w.heap.size v (bl (8 * s.size) (dbit s.data.toList)) ∧ Upd noBlock w w' := by
  obtain ⟨i0, hi0, hz0, hz1, hz2⟩ := intPartsI
  obtain ⟨n, hn⟩ : ∃ n, s.size = n := ⟨_, rfl⟩
  have HB : Hid (∀ k q (h : k < s.size), q < 8 → dbit s.data.toList (8 * k + (7 - q)) = s[k].toNat.testBit q) := by
    intro k q h hq
    unfold dbit bb
    rw [show (8 * k + (7 - q)) / 8 = k by omega, show (8 * k + (7 - q)) % 8 = 7 - q by omega, List.getD_eq_getElem?_getD, List.getElem?_eq_getElem (by simpa using h), show 7 - (7 - q) = q by omega]
    rfl
  generalize hD : dbit s.data.toList = D at *
  clear hD
  go_enter Tryz.func54, Tryz.ntmps54
  go_wp2
  go_loopw [3, 4] (fun v i wr => ∃ k : Nat, k ≤ n ∧ i = .int .i64 (k : Int) ∧ Hid (OwnI wr w.heap.size v (bl (8 * k) D)) ∧ Hid (Upd noBlock w wr)) (fun _ i _ => n - (intOf i).toNat)
  case atStart => exact ⟨0, Nat.zero_le _, rfl, OwnI.nil _ _, Upd.refl _ _⟩
  case round =>
    obtain ⟨k, hk, rfl, HO, HU⟩ := hrel
    by_cases h0 : k < n
    · have hks : k < s.size := by omega
      have HBk := Lib.hid (fun q => HB.out k q hks)
      obtain ⟨b, hb⟩ : ∃ b, s[k].toNat = b := ⟨_, rfl⟩
      have hb8 : b < 256 := by rw [← hb]; exact s[k].toNat_lt
      rw [hb] at HBk
      have hsz : s.size ≤ 9223372036854775807 := by omega
      go_wp2
      obtain ⟨wo, rfl⟩ : ∃ wo : World, wo = wr := ⟨_, rfl⟩
      go_loopw [3, 5] (fun v i wr => ∃ m : Nat, m ≤ 8 ∧ i = .int .i64 ((m : Int) - 1) ∧ Hid (OwnI wr w.heap.size v (bl (8 * k + (8 - m)) D)) ∧ Hid (Upd noBlock w wr)) (fun _ i _ => (intOf i + 1).toNat)
      case atStart => exact ⟨8, Nat.le_refl _, rfl, HO, HU⟩
      case round =>
        clear HO HU
        obtain ⟨m, hm, rfl, HO, HU⟩ := hrel
        rcases m with _ | q
        · go_wp2
          go_roundw
          case rel => exact ⟨k + 1, by omega, by go_num, HO, HU⟩
          case measure => simp [intOf]; omega
        · have eq : (((q + 1 : Nat) : Int) - 1) = (q : Int) := by omega
          rw [eq]
          have HW : Hid (IntKind.i64.wrap ((q : Int) - 1) = (q : Int) - 1) := by show _ = _; rw [IntKind.wrap_i64]; omega
          obtain ⟨z, hz⟩ : ∃ z, bi (D (8 * k + (7 - q))) = z := ⟨_, rfl⟩
          have hv : bits .and .u8 ((b : Int) / 2 ^ q) 1 = z := by
            have e := u8_bit b q hb8
            rw [Int.natCast_ediv, Int.natCast_pow] at e
            refine e.trans ?_
            rw [← hz, HBk.out q (by omega)]
            cases b.testBit q <;> rfl
          have hw : wrap64 z = z := by rw [← hz]; cases D (8 * k + (7 - q)) <;> (unfold wrap64; decide)
          have HO2 := Lib.hid (HO.out.grow ((Upd.refl noBlock wr).alloc (.cells #[.int .i64 z] 3)))
          have HU2 := Lib.hid (HU.out.alloc (.cells #[.int .i64 z] 3))
          have HI := Lib.hid (ints_one wr z)
          have HL : Hid ((bl (8 * k + (8 - (q + 1))) D).length ≤ 8100) := by show _ ≤ _; rw [bl_length]; omega
          have HNX : Hid (bl (8 * k + (8 - q)) D = bl (8 * k + (8 - (q + 1))) D ++ [z]) := by
            show _ = _
            rw [show 8 * k + (8 - q) = 8 * k + (8 - (q + 1)) + 1 by omega, bl_succ, ← hz, show 8 * k + (8 - (q + 1)) = 8 * k + (7 - q) by omega]
          have hbase := HU.out.size
          clear hz
          generalize hL : bl (8 * k + (8 - (q + 1))) D = L at *
          clear hL
          go_wp2_with (at_builtin; refine wpList_append_ints _ rfl (.tmp 16) (.tmp 24) _ rfl w.heap.size 3 i0 _ Tryz.underlying59 hi0 hz0 hz1 hz2 rfl _ L.length (vals L) rfl HO2.out (wr.heap.size + 1) (some ⟨wr.heap.size, 0, none⟩) 1 1 [z] rfl HI.out (by have := HL.out; simp only [maxLen]; omega) (by have := HL.out; omega) (by simp; omega) ?_; intro v3 w3 hown3 hg3 _)
          go_roundw
          case rel => exact ⟨q, by omega, by go_num, by rw [HNX.out]; exact OwnI.snoc rfl hown3, upd_of_grown HU2.out hg3 (fun i hi => .inr (HO2.out.lt i hi))⟩
          case measure => simp [intOf]
    · obtain rfl : k = n := by omega
      go_wp2
      go_ret
      exact ⟨_, rfl, by rw [hn]; exact HO.out, HU.out⟩
end Go.Proofs.YtnppjfaecnikpaaGreatDoor

/- The document's text of bits. -/
namespace Go.Proofs.YtnppjfaecnikpaaGreatDoor
open Go.RowKit Pm

theorem shr_128 : ∀ m : Fin 8, (128 : Int) / 2 ^ m.val = ((2 ^ (7 - m.val) : Nat) : Int) := by decide
theorem or_256 : ∀ (a b : Fin 256), bits .or .u8 (a.val : Int) (b.val : Int) = ((a.val ||| b.val : Nat) : Int) := by decide +kernel
theorem text_store {w3 : World} {B : Nat} {v : Value} {x : Nat → Bool} {k q m : Nat} (h : OwnB w3 B v (txt1 x k)) (hq : k / 8 = q) (hm : k % 8 = m) (hx : x k = true) :
    ∃ g cap o y, v = .slice (some ⟨g, 0, none⟩) (q + 1) cap ∧ B ≤ g ∧ w3.cell? ⟨g, q, none⟩ = some (.int .u8 ((o : Nat) : Int)) ∧ (∀ i, w3.frozen? ⟨g, i, none⟩ = false) ∧ (128 : Int) / 2 ^ m = ((y : Nat) : Int) ∧ y < 256 ∧
      bits .or .u8 ((o : Nat) : Int) ((y : Nat) : Int) = ((o ||| y : Nat) : Int) ∧
      (∀ w4 : World, w4.heap[g]? = w3.heap[g]? → OwnB (w4.setCell ⟨g, q, none⟩ (.int .u8 ((o ||| y : Nat) : Int))) B v (txt x (k + 1))) := by
  have hl : (txt1 x k).length = q + 1 := by rw [txt1_length, hq]
  obtain ⟨g, cap, h1, h2, _, h4, h5, h6⟩ := h.cells (by omega)
  rw [hl] at h1
  have ho : ((txt1 x k).getD q 0).toNat < 256 := ((txt1 x k).getD q 0).toNat_lt
  have hy : 2 ^ (7 - m) < 2 ^ 8 := Nat.pow_lt_pow_right (by omega) (by omega)
  refine ⟨g, cap, ((txt1 x k).getD q 0).toNat, 2 ^ (7 - m), h1, h2, h4 q (by omega), h5, ?_, hy, ?_, fun w4 hw => ?_⟩
  · exact shr_128 ⟨m, by omega⟩
  · exact or_256 ⟨_, ho⟩ ⟨_, hy⟩
  · have := h6 w4 q (UInt8.ofNat (((txt1 x k).getD q 0).toNat ||| 2 ^ (7 - m))) hw
    have e : (UInt8.ofNat (((txt1 x k).getD q 0).toNat ||| 2 ^ (7 - m))).toNat = ((txt1 x k).getD q 0).toNat ||| 2 ^ (7 - m) := by
      rw [UInt8.toNat_ofNat']
      exact Nat.mod_eq_of_lt (Nat.or_lt_two_pow (n := 8) ho hy)
    rw [e] at this
    rw [← txt1_on x k hx, hq, hm]
    exact this

set_option maxRecDepth 100000 in
set_option maxHeartbeats 3200000 in
theorem refText_any (a : Option Addr) (n c B : Nat) (x : Nat → Bool) (w : World) (hr : Ints w B a n (bl n x)) (hB : B ≤ w.heap.size) (hn : n ≤ 1000) :
    Calls Tryz.prog 68 #[.slice a n c] w fun e w' => e = .returned (.string ⟨(txt x n).toArray⟩) ∧ Upd noBlock w w' := by
  obtain ⟨i0, hi0, hz0, hz1, hz2⟩ := bytePartsI
  have HR := Lib.hid hr
  have HBB := Lib.hid hB
  clear hr hB
  go_enter Tryz.func68, Tryz.ntmps68
  go_wp2
  go_loopw [3, 4] (fun v i wr => ∃ k : Nat, k ≤ n ∧ i = .int .i64 (k : Int) ∧ Hid (OwnB wr w.heap.size v (txt x k)) ∧ Hid (Upd noBlock w wr)) (fun _ i _ => n - (intOf i).toNat)
  case atStart => exact ⟨0, Nat.zero_le _, rfl, OwnB.nil _ _, Upd.refl _ _⟩
  case round =>
    obtain ⟨k, hk, rfl, HO, HU⟩ := hrel
    by_cases h0 : k < n
    · obtain ⟨g, off, rfl, hg, hc⟩ := HR.out.cell (by omega)
      have c0 := hc k h0
      rw [bl_getD _ _ _ h0] at c0
      clear hc
      obtain ⟨q, hq⟩ : ∃ q, k / 8 = q := ⟨_, rfl⟩
      obtain ⟨m, hm⟩ : ∃ m, k % 8 = m := ⟨_, rfl⟩
      have hm8 : m < 8 := by omega
      have hq8 : (k : Int) / 8 = (q : Int) := by omega
      have hr8 : (k : Int) % 8 = (m : Int) := by omega
      have HQ : Hid (k / 8 = q) := hq
      have HM : Hid (k % 8 = m) := hm
      have HL1 : Hid ((txt1 x k).length = q + 1) := by show _ = _; rw [txt1_length, hq]
      have hbase := HU.out.size
      clear hq hm
      have HX : Hid (m = 0 → ∀ w3 v3, w3.ownsRow w.heap.size 5 1 v3 ((txt x k).length + 1) (bc (txt x k) ++ [.int .u8 0]) → OwnB w3 w.heap.size v3 (txt1 x k)) := fun hm w3 v3 h => by
        unfold txt1
        rw [← txt_snoc0 x k (HM.out.trans hm)]
        exact OwnB.join rfl rfl h
      have HX2 : Hid (m ≠ 0 → OwnB wr w.heap.size _ (txt1 x k)) := fun hm => by
        unfold txt1
        rw [← txt_in x k (by have := HM.out; omega)]
        exact HO.out
      have HO1 := Lib.hid (HO.out.grow ((Upd.refl noBlock wr).alloc (.cells #[.int .u8 0] 5)))
      have HU1 := Lib.hid (HU.out.alloc (.cells #[.int .u8 0] 5))
      have HI := Lib.hid (Row1.one wr 5 (.int .u8 0))
      have HL : Hid ((txt x k).length ≤ 200) := by show _ ≤ _; rw [txt_length]; omega
      have HY : Hid (∀ w3 v3, (wr.alloc (.cells #[.int .u8 0] 5)).grownBy w3 v3 → (∀ i, v3 = some i → w.heap.size ≤ i) → Upd noBlock w w3) := fun w3 v3 hg h => upd_of_grown HU1.out hg (fun i hi => .inr (h i hi))
      cases hx : x k
      · rw [hx] at c0
        have HC : Hid (∀ W, Upd noBlock w W → W.cell? ⟨g, off + k, none⟩ = some (.int .i64 0)) := fun W hW => upd_cell hW c0
        have c1 := HC.out wr HU.out
        have HNX := Lib.hid (txt1_off x k hx)
        clear c0 hx
        by_cases hm0 : m = 0
        · have hm1 : ((m : Int) == 0) = true := beq_iff_eq.2 (by omega)
          have HX' := Lib.hid (HX.out hm0)
          clear HX HX2
          go_wp2_with (at_builtin; refine wpList_append_vals _ rfl (.tmp 14) (.tmp 15) _ rfl w.heap.size 5 i0 _ 1 Tryz.underlying49 hi0 hz0 hz1 hz2 rfl _ (txt x k).length (bc (txt x k)) rfl HO1.out (wr.heap.size + 1) (some ⟨wr.heap.size, 0, none⟩) 1 1 [.int .u8 0] rfl HI.out (by intro u hu; simp at hu; subst hu; rfl) (by have := HL.out; simp only [maxLen]; omega) (by have := HL.out; omega) (by simp; omega) ?_; intro v3 w3 hown3 hg3 _; have U4 : Hid (Upd noBlock w w3) := HY.out _ _ hg3 (fun i hi => HO1.out.lt i hi); have O3 := Lib.hid (HX'.out _ _ hown3); have c3 := HC.out w3 U4.out; clear hown3 hg3)
          go_roundw
          case rel => exact ⟨k + 1, by omega, by go_num, by rw [← HNX.out]; exact O3.out, U4⟩
          case measure => simp [intOf]; omega
        · have hm1 : ((m : Int) == 0) = false := beq_eq_false_iff_ne.2 (by omega)
          have O3 := Lib.hid (HX2.out hm0)
          go_wp2
          go_roundw
          case rel => exact ⟨k + 1, by omega, by go_num, by rw [← HNX.out]; exact O3.out, HU⟩
          case measure => simp [intOf]; omega
      · rw [hx] at c0
        have HC : Hid (∀ W, Upd noBlock w W → W.cell? ⟨g, off + k, none⟩ = some (.int .i64 1)) := fun W hW => upd_cell hW c0
        have c1 := HC.out wr HU.out
        have HST : Hid (∀ W v, OwnB W w.heap.size v (txt1 x k) → _) := fun W v h => text_store h HQ.out HM.out hx
        clear c0 hx
        by_cases hm0 : m = 0
        · have hm1 : ((m : Int) == 0) = true := beq_iff_eq.2 (by omega)
          have HX' := Lib.hid (HX.out hm0)
          clear HX HX2
          go_wp2_with (at_builtin; refine wpList_append_vals _ rfl (.tmp 14) (.tmp 15) _ rfl w.heap.size 5 i0 _ 1 Tryz.underlying49 hi0 hz0 hz1 hz2 rfl _ (txt x k).length (bc (txt x k)) rfl HO1.out (wr.heap.size + 1) (some ⟨wr.heap.size, 0, none⟩) 1 1 [.int .u8 0] rfl HI.out (by intro u hu; simp at hu; subst hu; rfl) (by have := HL.out; simp only [maxLen]; omega) (by have := HL.out; omega) (by simp; omega) ?_; intro v3 w3 hown3 hg3 _; have U4 : Hid (Upd noBlock w w3) := HY.out _ _ hg3 (fun i hi => HO1.out.lt i hi); have O3 := Lib.hid (HX'.out _ _ hown3); have c3 := HC.out w3 U4.out; clear hown3 hg3)
          obtain ⟨g3, cap3, o, y, hv3, hb3, e1, e2, hy, hy8, hor, hs3⟩ := HST.out _ _ O3.out
          obtain rfl : y = 128 := by rw [hm0] at hy; simp at hy; omega
          have hor2 : bits .or .u8 ((o : Nat) : Int) 128 = ((o ||| 128 : Nat) : Int) := hor
          subst hv3
          have d1 : w3.drew.cell? ⟨g3, q, none⟩ = some (.int .u8 ((o : Nat) : Int)) := e1
          have d2 : w3.drew.frozen? ⟨g3, q, none⟩ = false := e2 q
          have F1 : Hid (OwnB (w3.setCell ⟨g3, q, none⟩ (.int .u8 ((o ||| 128 : Nat) : Int))).drew w.heap.size _ (txt x (k + 1))) := hs3 w3 rfl
          have F2 : Hid (Upd noBlock w (w3.setCell ⟨g3, q, none⟩ (.int .u8 ((o ||| 128 : Nat) : Int))).drew) := (U4.out.setCell (p := ⟨g3, q, none⟩) (.inr hb3) _).drew
          clear e1 e2 hs3 O3
          generalize o ||| 128 = z at *
          go_region
          go_wp2_with fail
          go_roundw
          case rel => exact ⟨k + 1, by omega, by go_num, F1, F2⟩
          case measure => simp [intOf]; omega
        · have hm1 : ((m : Int) == 0) = false := beq_eq_false_iff_ne.2 (by omega)
          have O3 := Lib.hid (HX2.out hm0)
          have U4 := HU
          obtain ⟨g3, cap3, o, y, hv3, hb3, e1, e2, hy, hy8, hor, hs3⟩ := HST.out _ _ O3.out
          subst hv3
          have d1 : wr.drew.cell? ⟨g3, q, none⟩ = some (.int .u8 ((o : Nat) : Int)) := e1
          have d2 : wr.drew.frozen? ⟨g3, q, none⟩ = false := e2 q
          have F1 : Hid (OwnB (wr.setCell ⟨g3, q, none⟩ (.int .u8 ((o ||| y : Nat) : Int))).drew w.heap.size _ (txt x (k + 1))) := hs3 wr rfl
          have F2 : Hid (Upd noBlock w (wr.setCell ⟨g3, q, none⟩ (.int .u8 ((o ||| y : Nat) : Int))).drew) := (U4.out.setCell (p := ⟨g3, q, none⟩) (.inr hb3) _).drew
          clear e1 e2 hs3 O3
          generalize o ||| y = z at *
          go_wp2
          go_region
          go_wp2_with fail
          go_roundw
          case rel => exact ⟨k + 1, by omega, by go_num, F1, F2⟩
          case measure => simp [intOf]; omega
    · obtain rfl : k = n := by omega
      have hcv := HO.out.text
      go_wp2
      go_ret
      exact ⟨rfl, HU.out⟩
end Go.Proofs.YtnppjfaecnikpaaGreatDoor

/- The document's Degree and Encode: long division. -/
namespace Go.Proofs.YtnppjfaecnikpaaGreatDoor
open Go.RowKit Pm

theorem gen_cell (t : Nat) (h1 : 1 ≤ t) (h8 : t ≤ 8) (k : Nat) (hk : k < (exps (GG t)).length) : ∃ e : Nat, (exps (GG t)).getD k 0 = (e : Int) ∧ e ≤ 13 * t := by
  obtain ⟨he, _, htl⟩ := gen_list t h1 h8
  rw [he] at hk ⊢
  cases k with
  | zero => exact ⟨13 * t, rfl, Nat.le_refl _⟩
  | succ k =>
    obtain ⟨e, h, hl⟩ := htl k (by simpa using hk)
    exact ⟨e, h, by omega⟩
theorem gen_head (t : Nat) (h1 : 1 ≤ t) (h8 : t ≤ 8) : (exps (GG t)).getD 0 0 = ((13 * t : Nat) : Int) ∧ 0 < (exps (GG t)).length ∧ (exps (GG t)).length ≤ 105 := by
  obtain ⟨he, hl, _⟩ := gen_list t h1 h8
  refine ⟨by rw [he]; rfl, by rw [he]; simp, hl⟩
theorem gg_same (t : Nat) (h8 : t ≤ 8) : Doc.GG t = GG t := by rw [Doc.GG_val t h8, GG_val t h8]; rfl
/-- the document's Generator, as a list -/
theorem docGen_any (t : Nat) (ht1 : 1 ≤ t) (ht8 : t ≤ 8) (W : World) : Calls Tryz.prog 57 #[.int .i64 (t : Int)] W fun e w' => ∃ p n c, e = .returned (.slice p n c) ∧ Ints w' w'.heap.size p n (exps (GG t)) ∧ n ≤ c ∧ n ≤ maxLen ∧ Upd noBlock W w' :=
  (Doc.rGenerator_any t W ht1 ht8).mono fun e w' ⟨v, he, hp, hu⟩ => by
    rw [gg_same t ht8] at hp
    obtain ⟨p, n, c, rfl, h1, h2, h3, _⟩ := hp.gp (Nat.le_refl _)
    exact ⟨p, n, c, he, h1, h3, h2, hu⟩
set_option maxRecDepth 100000 in
theorem refDegree_any (t : Nat) (w : World) (ht1 : 1 ≤ t) (ht8 : t ≤ 8) :
    Calls Tryz.prog 34 #[.int .i64 (t : Int)] w fun e w' => e = .returned (.int .i64 ((13 * t : Nat) : Int)) ∧ Upd noBlock w w' := by
  obtain ⟨hg, hg0, _⟩ := gen_head t ht1 ht8
  have HGEN := Lib.hid (docGen_any t ht1 ht8)
  generalize exps (GG t) = L at *
  generalize 13 * t = d at *
  have HD := Lib.hid hg
  clear hg ht1 ht8
  go_enter Tryz.func34, Tryz.ntmps34
  go_wp2_with (go_at_call 57; refine (HGEN.out _).mono ?_; rintro e w1 ⟨p, n, c, rfl, hi1, hnc, hnm, hu1⟩; have HL := Lib.hid hi1.1; have hn0 : 0 < n := (by have := HL.out; omega); obtain ⟨g, off, rfl, hgl, hc1⟩ := hi1.cell hn0; have k0 := hc1 0 hn0; rw [HD.out, Nat.add_zero] at k0; have U1 := Lib.hid hu1; clear hc1 hi1 hu1)
  go_ret
  exact ⟨rfl, U1.out⟩
theorem flp_take (L : List Int) (j b p : Nat) (hj : j < L.length) : flp (L.take (j + 1)) b p = (flp (L.take j) b p != decide (p = b - (L.getD j 0).toNat)) := by
  rw [List.take_succ_eq_append_getElem hj, flp_snoc, List.getD_eq_getElem?_getD, List.getElem?_eq_getElem hj]
  rfl
theorem bi_xor1 (b : Bool) : bits .xor .i64 (bi b) 1 = bi (!b) := by cases b <;> decide +kernel
set_option maxRecDepth 100000 in
set_option maxHeartbeats 6400000 in
theorem refEncode_any (t : Nat) (s : ByteArray) (w : World) (ht1 : 1 ≤ t) (ht8 : t ≤ 8) (hs : s.size ≤ 1000) :
    Calls Tryz.prog 42 #[.int .i64 (t : Int), .string s] w fun e w' => e = .returned (.string ⟨(parT t s.data.toList).toArray⟩) ∧ Upd noBlock w w' := by
  obtain ⟨i0, hi0, hz0, hz1, hz2⟩ := intPartsI
  obtain ⟨hg, hg0, hg105⟩ := gen_head t ht1 ht8
  have HE := Lib.hid (parT_txt t ht1 ht8 s.data.toList)
  rw [show s.data.toList.length = s.size by simp] at HE
  have HCE := Lib.hid (gen_cell t ht1 ht8)
  have HGEN := Lib.hid (docGen_any t ht1 ht8)
  have HRS : Hid (∀ i p, rows (exps (GG t)) (13 * t) s.data.toList (i + 1) p = (rows (exps (GG t)) (13 * t) s.data.toList i p != (rows (exps (GG t)) (13 * t) s.data.toList i i && flp (exps (GG t)) (i + 13 * t) p))) := fun i p => rfl
  have HFAR : Hid (∀ p, 8 * s.size ≤ p → rows (exps (GG t)) (13 * t) s.data.toList 0 p = false) := fun p h => dbit_far _ p (by simpa using h)
  have hd104 : 13 * t ≤ 104 := by omega
  have hd1 : 1 ≤ 13 * t := by omega
  have HBITS : Hid (∀ W, Calls Tryz.prog 54 #[.string s] W fun e w' => ∃ v, e = .returned v ∧ OwnI w' W.heap.size v (bl (8 * s.size) (rows (exps (GG t)) (13 * t) s.data.toList 0)) ∧ Upd noBlock W w') := fun W => refBits_any s W hs
  generalize rows (exps (GG t)) (13 * t) s.data.toList = RW at *
  generalize parT t s.data.toList = Z at *
  generalize exps (GG t) = L at *
  generalize 13 * t = d at *
  obtain ⟨m, hm⟩ : ∃ m, 8 * s.size = m := ⟨_, rfl⟩
  rw [hm] at HE HFAR HBITS
  have hm8000 : m ≤ 8000 := by omega
  clear hm ht1 ht8 hs
  have HD := Lib.hid hg
  clear hg
  go_enter Tryz.func42, Tryz.ntmps42
  go_wp2_with (first
    | (go_at_call 57; refine (HGEN.out _).mono ?_; rintro e w1 ⟨p, n, c, rfl, hi1, hnc, hnm, hu1⟩; have HL := Lib.hid hi1.1; have hn0 : 0 < n := (by have := HL.out; omega); have hn105 : n ≤ 105 := (by have := HL.out; omega); obtain ⟨g, off, rfl, hgl, hc1⟩ := hi1.cell hn0; have k0 := hc1 0 hn0; rw [HD.out, Nat.add_zero] at k0; have HI1 := Lib.hid hi1; have U1 := Lib.hid hu1; clear hc1 hi1 hu1)
    | (go_at_call 54; refine (HBITS.out _).mono ?_; rintro e w2 ⟨v2, rfl, ho2, hu2⟩; have HO2 := Lib.hid ho2; have U2 := Lib.hid hu2; clear ho2 hu2))
  go_loopw [7, 8] (fun v i wr => ∃ k : Nat, k ≤ d ∧ i = .int .i64 (k : Int) ∧ Hid (OwnI wr w1.heap.size v (bl (m + k) (RW 0))) ∧ Hid (Upd noBlock w1 wr)) (fun _ i _ => d - (intOf i).toNat)
  case atStart => exact ⟨0, Nat.zero_le _, rfl, HO2, U2⟩
  case round =>
    clear HO2 U2
    obtain ⟨k, hk, rfl, HO, HU⟩ := hrel
    by_cases h0 : k < d
    · have HO2 := Lib.hid (HO.out.grow ((Upd.refl noBlock wr).alloc (.cells #[.int .i64 0] 3)))
      have HU2 := Lib.hid (HU.out.alloc (.cells #[.int .i64 0] 3))
      have HI := Lib.hid (ints_one wr 0)
      have HLN : Hid ((bl (m + k) (RW 0)).length ≤ 8200) := by show _ ≤ _; rw [bl_length]; omega
      have HNX : Hid (bl (m + (k + 1)) (RW 0) = bl (m + k) (RW 0) ++ [0]) := by
        show _ = _
        rw [← Nat.add_assoc, bl_succ, HFAR.out (m + k) (by omega)]; rfl
      have hbase := HU.out.size
      generalize bl (m + k) (RW 0) = B0 at *
      go_wp2_with (at_builtin; refine wpList_append_ints _ rfl (.tmp 23) (.tmp 24) _ rfl w1.heap.size 3 i0 _ Tryz.underlying59 hi0 hz0 hz1 hz2 rfl _ B0.length (vals B0) rfl HO2.out (wr.heap.size + 1) (some ⟨wr.heap.size, 0, none⟩) 1 1 [0] rfl HI.out (by have := HLN.out; simp only [maxLen]; omega) (by have := HLN.out; omega) (by simp; omega) ?_; intro v3 w3 hown3 hg3 _)
      go_roundw
      case rel => exact ⟨k + 1, by omega, by go_num, by rw [HNX.out]; exact OwnI.snoc rfl hown3, upd_of_grown HU2.out hg3 (fun i hi => .inr (HO2.out.lt i hi))⟩
      case measure => simp [intOf]; omega
    · obtain rfl : k = d := by omega
      have hlt : decide ((k : Int) < (k : Int)) = false := decide_eq_false (by omega)
      obtain ⟨N, hN⟩ : ∃ N, m + k = N := ⟨_, rfl⟩
      rw [hN] at HO
      have HN : Hid (m + k = N) := hN
      have hNp : 0 < N := by omega
      have hN8 : N ≤ 8200 := by omega
      have hbl : ∀ f, (bl N f).length = N := fun f => bl_length N f
      obtain ⟨g2, cap, hv2, hb2, hlt2, _, _, _⟩ := HO.out.cells (by rw [hbl]; exact hNp)
      rw [hbl] at hv2
      subst hv2
      have hcap : N ≤ cap := by have := own_cap HO.out; rw [hbl] at this; exact this
      clear hN hlt h0 hk
      go_wp2
      obtain ⟨wo, rfl⟩ : ∃ wo : World, wo = wr := ⟨_, rfl⟩
      go_loopw [9] (fun i wr => ∃ q : Nat, q ≤ m ∧ i = .int .i64 (q : Int) ∧ Hid (OwnI wr w1.heap.size (.slice (some ⟨g2, 0, none⟩) N cap) (bl N (RW q))) ∧ Hid (Upd noBlock w1 wr)) (fun i _ => m - (intOf i).toNat)
      case atStart => exact ⟨0, Nat.zero_le _, rfl, HO, HU⟩
      case round =>
        clear HO HU
        obtain ⟨q, hq, rfl, HO, HU⟩ := hrel
        obtain ⟨qk, hqk⟩ : ∃ qk, q + k = qk := ⟨_, rfl⟩
        have HQK : Hid (q + k = qk) := hqk
        have hw1 : IntKind.i64.wrap ((q : Int) + (k : Int)) = (qk : Int) := by rw [IntKind.wrap_i64]; omega
        by_cases h0 : q < m
        · have hlt : qk < N := by have := HN.out; omega
          have hqN : q < N := by have := HN.out; omega
          obtain ⟨_, _, hv3, _, _, hc3, hf3, _⟩ := HO.out.cells (by rw [hbl]; exact hNp)
          rw [hbl] at hv3
          cases hv3
          have c1 := hc3 q (by rw [hbl]; exact hqN)
          rw [bl_getD N _ q hqN] at c1
          have c1f := hf3 q
          have HR1 := Lib.hid (HRS.out q)
          clear hc3 hf3 hqk
          cases hR : RW q q
          · rw [hR] at c1 HR1
            have c1' : wr.cell? ⟨g2, q, none⟩ = some (.int .i64 0) := c1
            have HNX : Hid (bl N (RW (q + 1)) = bl N (RW q)) := bl_congr fun p _ => by rw [HR1.out p, Bool.false_and]; cases RW q p <;> rfl
            clear c1 hR
            go_wp2
            go_roundw
            case rel => exact ⟨q + 1, by omega, by go_num, by rw [HNX.out]; exact HO, HU⟩
            case measure => simp [intOf]; omega
          · rw [hR] at c1 HR1
            have c1' : wr.cell? ⟨g2, q, none⟩ = some (.int .i64 1) := c1
            clear c1 hR
            go_wp2
            obtain ⟨wp, rfl⟩ : ∃ wp : World, wp = wr := ⟨_, rfl⟩
            go_loopw [10] (fun i wr => ∃ j : Nat, j ≤ n ∧ i = .int .i64 (j : Int) ∧ Hid (OwnI wr w1.heap.size (.slice (some ⟨g2, 0, none⟩) N cap) (bl N fun p => (RW q p != flp (L.take j) (q + k) p))) ∧ Hid (Upd noBlock w1 wr)) (fun i _ => n - (intOf i).toNat)
            case atStart => exact ⟨0, Nat.zero_le _, rfl, by show OwnI _ _ _ _; rw [bl_congr (g := RW q) fun p _ => by show (RW q p != flp [] _ _) = _; show (RW q p != false) = _; cases RW q p <;> rfl]; exact HO.out, HU⟩
            case round =>
              clear HO HU c1f c1'
              obtain ⟨j, hj, rfl, HO, HU⟩ := hrel
              by_cases j0 : j < n
              · obtain ⟨e, he, hek⟩ := HCE.out j (by have := HL.out; omega)
                have HFT := Lib.hid (fun b p => flp_take L j b p (by have := HL.out; omega))
                obtain ⟨g', off', hgo, hgl', hcg⟩ := (HI1.out.grow HU.out (Nat.le_refl _)).cell hn0
                cases hgo
                have cg := hcg j j0
                rw [he] at cg
                rw [he, Int.toNat_natCast] at HFT
                obtain ⟨ix, hix⟩ : ∃ ix, q + k - e = ix := ⟨_, rfl⟩
                have hixN : ix < N := by have := HN.out; omega
                have hw2 : IntKind.i64.wrap ((qk : Int) - (e : Int)) = (ix : Int) := by have := HQK.out; rw [IntKind.wrap_i64]; omega
                obtain ⟨_, _, hv3, _, _, hc3, hf3, hs3⟩ := HO.out.cells (by rw [hbl]; exact hNp)
                rw [hbl] at hv3
                cases hv3
                have c3 := hc3 ix (by rw [hbl]; exact hixN)
                rw [bl_getD N _ ix hixN] at c3
                have f3 := hf3 ix
                have hb1 := bi_xor1 (RW q ix != flp (L.take j) (q + k) ix)
                have HO3 : Hid (OwnI (wr.setCell ⟨g2, ix, none⟩ (.int .i64 (bi (!(RW q ix != flp (L.take j) (q + k) ix))))) w1.heap.size (.slice (some ⟨g2, 0, none⟩) N cap) (bl N fun p => (RW q p != flp (L.take (j + 1)) (q + k) p))) := by
                  have := hs3 wr ix (bi (!(RW q ix != flp (L.take j) (q + k) ix))) rfl
                  have e2 := bl_set N (fun p => (RW q p != flp (L.take j) (q + k) p)) ix
                  rw [e2] at this
                  show OwnI _ _ _ _
                  rw [bl_congr (g := fun p => ((RW q p != flp (L.take j) (q + k) p) != decide (p = ix))) fun p _ => by rw [HFT.out (q + k) p, hix]; cases RW q p <;> cases flp (L.take j) (q + k) p <;> cases decide (p = ix) <;> rfl]
                  exact this
                have HU3 : Hid (Upd noBlock w1 (wr.setCell ⟨g2, ix, none⟩ (.int .i64 (bi (!(RW q ix != flp (L.take j) (q + k) ix)))))) := HU.out.setCell (p := ⟨g2, ix, none⟩) (.inr hb2) _
                clear hc3 hf3 hs3 hcg hix
                generalize bi (RW q ix != flp (L.take j) (q + k) ix) = y at *
                generalize bi (!(RW q ix != flp (L.take j) (q + k) ix)) = z at *
                go_wp2
                go_roundw
                case rel => exact ⟨j + 1, by omega, by go_num, HO3, HU3⟩
                case measure => simp [intOf]; omega
              · obtain rfl : j = n := by omega
                have HNX : Hid ((bl N fun p => (RW q p != flp (L.take j) (q + k) p)) = bl N (RW (q + 1))) := bl_congr fun p _ => by rw [HR1.out p, Bool.true_and, List.take_of_length_le (by have := HL.out; omega)]
                go_wp2
                go_roundw
                case rel => exact ⟨q + 1, by omega, by go_num, by rw [← HNX.out]; exact HO, HU⟩
                case measure => simp [intOf]; omega
        · obtain rfl : q = m := by omega
          have hlt : ¬ qk < N := by have := HN.out; omega
          have hw2 : IntKind.i64.wrap ((N : Int) - (k : Int)) = (q : Int) := by have := HN.out; rw [IntKind.wrap_i64]; omega
          have hsl : ∀ w : World, (Instr.sliceAt 59 (.slice (some ⟨g2, 0, none⟩) N cap) (some (.int .i64 (q : Int))) none none).run Tryz.prog w = .ok (.slice (if cap = q then some ⟨g2, 0, none⟩ else (some (⟨g2, 0, none⟩ : Addr)).map (·.add q)) (N - q) (cap - q)) w := fun w => Doc.run_slice_hi w 59 3 i0 Tryz.underlying59 hi0 hz1 _ N cap q (by have := HN.out; omega)
          have HT : Hid (Ints wr wr.heap.size (if cap = q then some ⟨g2, 0, none⟩ else (some (⟨g2, 0, none⟩ : Addr)).map (·.add q)) (N - q) (bl k fun j => RW q (q + j))) := by
            obtain ⟨a, c, hv, hi, _, _⟩ := HO.out.sl
            rw [hbl] at hv hi
            cases hv
            have := Doc.ints_tail wr hi (k := q) (c := cap) (by have := HN.out; omega) hcap
            rw [bl_drop, show N - q = k by have := HN.out; omega] at this
            rw [show N - q = k by have := HN.out; omega]
            exact this
          rw [show N - q = k by have := HN.out; omega] at hsl HT
          generalize (if cap = q then some ⟨g2, 0, none⟩ else (some (⟨g2, 0, none⟩ : Addr)).map (·.add q)) = A1 at *
          go_wp2_with (go_at_call 68; refine (refText_any _ _ _ _ _ _ HT.out (Nat.le_refl _) (by omega)).mono ?_; rintro e w5 ⟨rfl, hu5⟩; have U5 := Lib.hid hu5; clear hu5)
          go_ret
          exact ⟨by rw [HE.out]; rfl, (U1.out.trans HU.out).trans U5.out⟩
end Go.Proofs.YtnppjfaecnikpaaGreatDoor

/- The pair, the group of a page; two slices of int compared; a slice of int of the call's own; The plan of a block: parity.Of, the document's; The plan of a block, bad numbers too; the document's plan; the members of a group. -/
namespace Go.Proofs.YtnppjfaecnikpaaGreatDoor.Pr
open Go.RowKit

set_option maxRecDepth 100000 in
theorem pair_low (p : Nat) (w : World) (hp : Hid (p ≤ 9223372036854775807)) (h : p % 4 < 2) :
    Calls Tryz.prog 30 #[.int .i64 (p : Int)] w fun e w' => e = .returned (.tuple #[.int .i64 ((p + 2 : Nat) : Int), .bool false]) ∧ w = w' := by
  have h2 : (p : Int) % 4 < 2 := by omega
  have hw : IntKind.i64.wrap ((p : Int) + 2) = (p : Int) + 2 := by have := hp.out; rw [IntKind.wrap_i64]; omega
  clear h
  go_enter Tryz.func30, Tryz.ntmps30
  go_wp2
  go_ret2
  exact ⟨rfl, rfl⟩
set_option maxRecDepth 100000 in
theorem pair_up (p : Nat) (w : World) (hp : Hid (p ≤ 9223372036854775807)) (h : ¬ p % 4 < 2) :
    Calls Tryz.prog 30 #[.int .i64 (p : Int)] w fun e w' => e = .returned (.tuple #[.int .i64 ((p - 2 : Nat) : Int), .bool true]) ∧ w = w' := by
  have h2 : ¬ (p : Int) % 4 < 2 := by omega
  have h3 : ((p - 2 : Nat) : Int) = (p : Int) - 2 := by omega
  have hw : IntKind.i64.wrap ((p : Int) - 2) = (p : Int) - 2 := by have := hp.out; rw [IntKind.wrap_i64]; omega
  have H3 := Lib.hid h3
  clear h3 h
  go_enter Tryz.func30, Tryz.ntmps30
  go_wp2
  go_ret2
  rw [H3.out]
  exact ⟨rfl, rfl⟩

theorem Upd.grownOwn {a b c : World} {v : Value} (h : Upd noBlock a b) (g : b.grownBy c v.ownBlock) (hv : ∀ k, v.ownBlock = some k → a.heap.size ≤ k) : Upd noBlock a c :=
  ⟨g.os.trans h.os, g.tape.trans h.tape, g.output.trans h.output, Nat.le_trans h.size g.size, fun i hi hn => (g.block i (Nat.lt_of_lt_of_le hi h.size) (fun e => by have := hv i e.symm; omega)).trans (h.block i hi hn)⟩
/-- a slice of int, new since B, that reads as xs -/
def OwnV (w : World) (B : Nat) (v : Value) (xs : List Int) : Prop :=
  w.ownsRow B 3 1 v xs.length (vals xs)
theorem OwnV.sl {w : World} {B : Nat} {v : Value} {xs : List Int} (h : OwnV w B v xs) :
    ∃ a c, v = .slice a xs.length c ∧ Ints w w.heap.size a xs.length xs ∧ xs.length ≤ maxLen ∧ (∀ g, a.map Addr.block = some g → B ≤ g ∧ g < w.heap.size ∧ v.ownBlock = some g ∧ ∃ cs, w.heap[g]? = some (.cells cs 3 (0, 0))) := own_ints h
theorem OwnV.upd {w w' : World} {B : Nat} {v : Value} {xs : List Int} (h : OwnV w B v xs) {R : Nat → Prop} (hu : Upd R w w') (hR : ∀ g, v.ownBlock = some g → ¬ R g) : OwnV w' B v xs := by
  obtain ⟨hl, h⟩ := h
  refine ⟨hl, ?_⟩
  rcases h with ⟨h1, h2⟩ | ⟨g, cap, cur, rfl, hb, hg, r⟩
  · exact .inl ⟨h1, h2⟩
  · exact .inr ⟨g, cap, cur, rfl, hb, (hu.block g (lt_of_block hg) (hR g rfl)).trans hg, r⟩
theorem OwnV.grow {w w' : World} {B : Nat} {v : Value} {xs : List Int} (h : OwnV w B v xs) (hu : Upd noBlock w w') : OwnV w' B v xs := h.upd hu fun _ _ h => h
theorem OwnV.more {w : World} {B B' : Nat} {v : Value} {xs : List Int} (h : OwnV w B v xs) (hB : B' ≤ B) : OwnV w B' v xs := by
  obtain ⟨hl, h⟩ := h
  refine ⟨hl, ?_⟩
  rcases h with ⟨h1, h2⟩ | ⟨g, cap, cur, rfl, hb, hg, r⟩
  · exact .inl ⟨h1, h2⟩
  · exact .inr ⟨g, cap, cur, rfl, Nat.le_trans hB hb, hg, r⟩
theorem OwnV.nil (w : World) (B : Nat) : OwnV w B (.slice none 0 0) [] := World.ownsRow_nil _ _ _ _
/-- one element more -/
theorem OwnV.snoc {w : World} {B : Nat} {v : Value} {xs : List Int} {x : Int} (h : w.ownsRow B 3 1 v (xs.length + 1) (vals xs ++ vals [x])) : OwnV w B v (xs ++ [x]) := by
  unfold OwnV
  have e : (xs ++ [x]).length = xs.length + 1 := by simp
  have e2 : vals (xs ++ [x]) = vals xs ++ vals [x] := by simp [vals]
  rw [e, e2]; exact h
end Go.Proofs.YtnppjfaecnikpaaGreatDoor.Pr
namespace Go.Proofs.YtnppjfaecnikpaaGreatDoor.Pr
open Go.RowKit

end Go.Proofs.YtnppjfaecnikpaaGreatDoor.Pr
namespace Go.Proofs.YtnppjfaecnikpaaGreatDoor.Pr
open Go.RowKit

/-! the document's -/
/-- the last lower page below k -/
def lo : Nat → Int
  | 0 => -1
  | k + 1 => if k % 4 < 2 then (k : Int) else lo k
end Go.Proofs.YtnppjfaecnikpaaGreatDoor.Pr
