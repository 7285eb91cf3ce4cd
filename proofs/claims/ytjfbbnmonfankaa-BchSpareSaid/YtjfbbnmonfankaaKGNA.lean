import Derived.Test.YtjfbbnmonfankaaKIe
import Derived.Test.YtjfbbnmonfankaaKGMc
import Derived.Test.YtjfbbnmonfankaaKOw
import Derived.Test.YtjfbbnmonfankaaKGHu
import Derived.Deep.RegionWith
import Derived.Test.YtjfbbnmonfankaaKGPb
import Derived.Test.YtjfbbnmonfankaaKShelf
/- The calls on a Code's own field, its tables below a bound, however often it was asked. -/
namespace Go.Proofs.Ytjfbbnmonfankaa
open Go.RowKit Gfm
set_option linter.unusedVariables false

/-- a field with its tables, all below B -/
def RdyB (B : Nat) (w : World) (b : Spt) : Prop := b.blk < B ∧ ∃ (n : Int) (pb lb : Nat), pb < B ∧ lb < B ∧
  FB w b (.int .u32 1) (.int .i32 0) (.int .u32 0) (.slice (some ⟨pb, 0, none⟩) 16382 16382) (.slice (some ⟨lb, 0, none⟩) 8192 8192) (.int .i64 n) ∧
  w.rowIs pb 3 16382 (powRow 8191) ∧ w.rowIs lb 3 8192 (logRow 8191)
theorem RdyB.keep {B : Nat} {w w' : World} {b : Spt} (h : RdyB B w b) {R : Nat → Prop} (hu : Upd R w w') (hR : ∀ i, i < B → ¬ R i) : RdyB B w' b := by
  obtain ⟨hc, n, pb, lb, h1, h2, hb, hp, hl⟩ := h
  exact ⟨hc, n, pb, lb, h1, h2, hb.upd hu (hR _ hc), hp.of_block (hu.block _ hp.lt (hR _ h1)), hl.of_block (hu.block _ hl.lt (hR _ h2))⟩
theorem RdyB.grow {B : Nat} {w w' : World} {b : Spt} (h : RdyB B w b) (hu : Upd noBlock w w') : RdyB B w' b := h.keep hu fun _ _ h => h
theorem RdyB.ready {B : Nat} {w : World} {b : Spt} (h : RdyB B w b) : ∃ n, Ready w b n := by
  obtain ⟨_, n, pb, lb, _, _, hb, hp, hl⟩ := h
  exact ⟨n, pb, lb, hb, hp, hl⟩
set_option maxRecDepth 100000 in
set_option maxHeartbeats 1600000 in
theorem mul_R (B : Nat) (b : Spt) (a c : Int) (w : World) (h : RdyB B w b) :
    Calls Try.prog 55 #[.pointer (some ⟨b.blk, b.off, none⟩), .int .i64 a, .int .i64 c] w fun e w' =>
      e = .returned (.int .i64 (mul (low a) (low c) : Nat)) ∧ RdyB B w' b ∧ Upd (oneBlock b.blk) w w' := by
  obtain ⟨n, hn⟩ := h.ready
  obtain ⟨hc5, hz5⟩ := hn.fld.cell5
  have hadd := run_call_add (P := Try.prog) Try.func84 (by kernel_rfl) (by kernel_rfl) (by kernel_rfl) .i64 (by kernel_rfl) (y := 1) (s := IntKind.i64.wrap (n + 1)) hc5 hz5 (by simp [go_sem])
  have m1 : bits .and .i64 a 8191 = ((low a : Nat) : Int) := by rw [i64_8191, low_eq]
  have m2 : bits .and .i64 c 8191 = ((low c : Nat) : Int) := by rw [i64_8191, low_eq]
  have hbl := hn.fld.block.choose_spec
  have HB : Hid (∀ m : Int, RdyB B (w.setCell ⟨b.blk, b.off + 5, none⟩ (.int .i64 m)) b) := fun m => by
    obtain ⟨hcB, n, pb, lb, hpB, hlB, hb, hp, hl⟩ := h
    exact ⟨hcB, m, pb, lb, hpB, hlB, hb.set5 _, hp.setOther (rowIs_ne hp hbl) _, hl.setOther (rowIs_ne hl hbl) _⟩
  have HU : Hid (∀ m : Int, Upd (oneBlock b.blk) w (w.setCell ⟨b.blk, b.off + 5, none⟩ (.int .i64 m))) := fun m => (Upd.refl (oneBlock b.blk) w).setCell (p := ⟨b.blk, b.off + 5, none⟩) (.inl rfl) _
  have HPREP : Hid (∀ W, RdyB B W b → Calls Try.prog 74 #[.pointer (some ⟨b.blk, b.off, none⟩)] W fun e w' => e = .returned (.tuple #[]) ∧ Upd noBlock W w') := fun W hW => by
    obtain ⟨m, hm⟩ := hW.ready
    exact (prepare_ready _ m W hm).mono fun e w' ⟨h1, _, h3⟩ => ⟨h1, h3⟩
  have HPROD : Hid (∀ W, RdyB B W b → Calls Try.prog 75 #[.pointer (some ⟨b.blk, b.off, none⟩), .int .i64 ((low a : Nat) : Int), .int .i64 ((low c : Nat) : Int)] W fun e w' => e = .returned (.int .i64 (mul (low a) (low c) : Nat)) ∧ ∃ k, w' = W.drewN k) := fun W hW => by
    obtain ⟨m, hm⟩ := hW.ready
    exact product_any _ (low a) (low c) m W hm (low_lt a) (low_lt c)
  generalize IntKind.i64.wrap (n + 1) = m at *
  have HB0 := Lib.hid (HB.out m)
  have HU0 := Lib.hid (HU.out m)
  clear hn hbl h HB HU
  go_enter Try.func55, Try.ntmps55
  go_wp2_with (first
    | (go_at_call 73; go_in)
    | (go_at_call 74; refine (HPREP.out _ HB0.out).mono ?_; rintro e w1 ⟨rfl, hv⟩; have HV := Lib.hid hv; have HB1 := Lib.hid (HB0.out.grow hv); clear hv)
    | (go_at_call 75; refine (HPROD.out _ HB1.out).mono ?_; rintro e w2 ⟨rfl, q, rfl⟩))
  go_ret
  exact ⟨rfl, HB1.out.grow ((Upd.refl noBlock _).drewN q), (HU0.out.trans HV.out.one).drewN q⟩
/-- a Code with its steps, whose field's tables lie below B -/
def MadeB (B : Nat) (w : World) (c t : Nat) (k : Int) : Prop := RdyB B w (cS c t k (.int .u32 1) (.int .i32 0) ((13 * t : Nat) : Int) (stepsV t))
theorem Made.bound {w : World} {c t : Nat} {k : Int} (h : Made w c t k) (B : Nat) (hB : w.heap.size ≤ B) : MadeB B w c t k := by
  have hlt := h.lt
  obtain ⟨n, pb, lb, hb, hp, hl⟩ := h
  exact ⟨Nat.lt_of_lt_of_le hlt hB, n, pb, lb, Nat.lt_of_lt_of_le hp.lt hB, Nat.lt_of_lt_of_le hl.lt hB, hb, hp, hl⟩
theorem MadeB.made {B : Nat} {w : World} {c t : Nat} {k : Int} (h : MadeB B w c t k) : Made w c t k := RdyB.ready h
theorem MadeB.keep {B : Nat} {w w' : World} {c t : Nat} {k : Int} (h : MadeB B w c t k) {R : Nat → Prop} (hu : Upd R w w') (hR : ∀ i, i < B → ¬ R i) : MadeB B w' c t k := RdyB.keep h hu hR
theorem MadeB.grow {B : Nat} {w w' : World} {c t : Nat} {k : Int} (h : MadeB B w c t k) (hu : Upd noBlock w w') : MadeB B w' c t k := RdyB.grow h hu
theorem MadeB.lt {B : Nat} {w : World} {c t : Nat} {k : Int} (h : MadeB B w c t k) : c < B := h.1
theorem mul_B (B c t : Nat) (k a b : Int) (w : World) (h : MadeB B w c t k) :
    Calls Try.prog 55 #[.pointer (some ⟨c, 5, none⟩), .int .i64 a, .int .i64 b] w fun e w' =>
      e = .returned (.int .i64 (mul (low a) (low b) : Nat)) ∧ MadeB B w' c t k ∧ Upd (oneBlock c) w w' := mul_R B _ a b w h
set_option maxRecDepth 100000 in
theorem exp_B (B c t : Nat) (k a : Int) (w : World) (h : MadeB B w c t k) :
    Calls Try.prog 58 #[.pointer (some ⟨c, 5, none⟩), .int .i64 a] w fun e w' =>
      e = .returned (.int .i64 (pw (trn a) : Nat)) ∧ Upd noBlock w w' := by
  obtain ⟨n, hn⟩ := h.made
  exact (exp_ready _ n a w hn).mono fun e w' ⟨h1, _, h3⟩ => ⟨h1, h3⟩
set_option maxRecDepth 100000 in
theorem log_B (B c t : Nat) (k a : Int) (w : World) (h : MadeB B w c t k) (ha : low a ≠ 0) :
    Calls Try.prog 61 #[.pointer (some ⟨c, 5, none⟩), .int .i64 a] w fun e w' =>
      e = .returned (.tuple #[.int .i64 (lg (low a) : Nat), .bool true]) ∧ Upd noBlock w w' := by
  obtain ⟨n, hn⟩ := h.made
  exact (log_ready _ n a w hn ha).mono fun e w' ⟨h1, _, h3⟩ => ⟨h1, h3⟩
set_option maxRecDepth 100000 in
theorem log_zero (c : Nat) (a : Int) (w : World) (ha : low a = 0) :
    Calls Try.prog 61 #[.pointer (some ⟨c, 5, none⟩), .int .i64 a] w fun e w' =>
      e = .returned (.tuple #[.int .i64 0, .bool false]) ∧ w = w' := log_no ⟨c, 5, 67, fun _ => none, by decide⟩ a w ha
set_option maxRecDepth 100000 in
set_option maxHeartbeats 1600000 in
theorem inv_ready (b : Spt) (n a : Int) (w : World) (h : Ready w b n) (ha : low a ≠ 0) :
    Calls Try.prog 53 #[.pointer (some ⟨b.blk, b.off, none⟩), .int .i64 a] w fun e w' =>
      e = .returned (.tuple #[.int .i64 (invN (low a) : Nat), .bool true]) ∧ Upd noBlock w w' := by
  have HF := Lib.hid h
  have hlg := lg_lt (low a)
  have Hv : Hid (invN (low a) = pw (8191 - lg (low a))) := by unfold invN; exact if_neg ha
  have HA := Lib.hid ha
  have hnot : ∀ (x : Bool) (w : World), (Op.unary .not (.bool x)).run Try.prog w = .ok (.bool (!x)) w := fun _ _ => rfl
  have s1 : (8191 : Int) - ((lg (low a) : Nat) : Int) = ((8191 - lg (low a) : Nat) : Int) := by omega
  clear h ha
  go_enter Try.func53, Try.ntmps53
  go_wp2_with (go_at_call 61; refine (log_ready b n a _ HF.out HA.out).mono ?_; rintro e w1 ⟨rfl, HR0, HV0⟩; have HR := Lib.hid HR0; have HV := Lib.hid HV0; clear HR0 HV0; obtain ⟨pb, lb, hb, hp, hl⟩ := HR.out; have c3 : w1.cell? ⟨b.blk, b.off + 3, none⟩ = some (.slice (some ⟨pb, 0, none⟩) 16382 16382) := hb.c3; have p1 : w1.cell? ⟨pb, 8191 - lg (low a), none⟩ = some (powRow 8191 (8191 - lg (low a))) := hp.cell (i := 8191 - lg (low a)) (by omega); clear hb hp hl)
  go_ret2
  refine ⟨?_, HV.out⟩
  rw [Hv.out]
  unfold powRow
  by_cases g : 8191 - lg (low a) < 8191
  · rw [if_pos g]; rfl
  · rw [if_neg g, if_pos (by omega)]; rfl
set_option maxRecDepth 100000 in
theorem inv_B (B c t : Nat) (k a : Int) (w : World) (h : MadeB B w c t k) (ha : low a ≠ 0) :
    Calls Try.prog 53 #[.pointer (some ⟨c, 5, none⟩), .int .i64 a] w fun e w' =>
      e = .returned (.tuple #[.int .i64 (invN (low a) : Nat), .bool true]) ∧ Upd noBlock w w' := by
  obtain ⟨n, hn⟩ := h.made
  exact (inv_ready (cS c t k (.int .u32 1) (.int .i32 0) ((13 * t : Nat) : Int) (stepsV t)) n a w hn ha).mono fun e w' ⟨h1, h3⟩ => ⟨h1, h3⟩
end Go.Proofs.Ytjfbbnmonfankaa

/- Numbers of the field in memory; gap. -/
namespace Go.Proofs.Ytjfbbnmonfankaa
open Go.RowKit Pm F
set_option linter.unusedVariables false

theorem al_val (n : Nat) : (al n).1 = Gfm.pw n := rfl
theorem mul_F (B c t : Nat) (k : Int) (x y : F) (w : World) (h : MadeB B w c t k) :
    Calls Try.prog 55 #[.pointer (some ⟨c, 5, none⟩), .int .i64 (x.1 : Int), .int .i64 (y.1 : Int)] w fun e w' =>
      e = .returned (.int .i64 ((x * y).1 : Int)) ∧ MadeB B w' c t k ∧ Upd (oneBlock c) w w' :=
  (mul_B B c t k _ _ w h).mono fun e w' ⟨h1, h2, h3⟩ => ⟨by rw [h1, low_nat _ x.2, low_nat _ y.2]; rfl, h2, h3⟩
theorem exp_F (B c t : Nat) (k a : Int) (w : World) (h : MadeB B w c t k) :
    Calls Try.prog 58 #[.pointer (some ⟨c, 5, none⟩), .int .i64 a] w fun e w' =>
      e = .returned (.int .i64 ((alI a).1 : Int)) ∧ Upd noBlock w w' := exp_B B c t k a w h
theorem log_F (B c t : Nat) (k : Int) (x : F) (w : World) (h : MadeB B w c t k) (hx : x ≠ 0) :
    Calls Try.prog 61 #[.pointer (some ⟨c, 5, none⟩), .int .i64 (x.1 : Int)] w fun e w' =>
      e = .returned (.tuple #[.int .i64 (Gfm.lg x.1 : Nat), .bool true]) ∧ Upd noBlock w w' := by
  have hl := low_nat x.1 x.2
  have h0 := val_pos hx
  exact (log_B B c t k _ w h (by rw [hl]; omega)).mono fun e w' ⟨h1, h3⟩ => ⟨by rw [h1, hl], h3⟩
theorem log_F0 (c : Nat) (w : World) :
    Calls Try.prog 61 #[.pointer (some ⟨c, 5, none⟩), .int .i64 0] w fun e w' => e = .returned (.tuple #[.int .i64 0, .bool false]) ∧ w = w' := log_zero c 0 w rfl
theorem inv_F (B c t : Nat) (k : Int) (x : F) (w : World) (h : MadeB B w c t k) (hx : x ≠ 0) :
    Calls Try.prog 53 #[.pointer (some ⟨c, 5, none⟩), .int .i64 (x.1 : Int)] w fun e w' =>
      ∃ y : F, x * y = 1 ∧ e = .returned (.tuple #[.int .i64 (y.1 : Int), .bool true]) ∧ Upd noBlock w w' := by
  have hl := low_nat x.1 x.2
  have h0 := val_pos hx
  refine (inv_B B c t k _ w h (by rw [hl]; omega)).mono fun e w' ⟨h1, h3⟩ => ?_
  rw [hl] at h1
  refine ⟨al (8191 - Gfm.lg x.1), ?_, ?_, h3⟩
  · have hlt := Gfm.lg_lt x.1
    have e : al (Gfm.lg x.1) * al (8191 - Gfm.lg x.1) = 1 := by rw [← al_add, show Gfm.lg x.1 + (8191 - Gfm.lg x.1) = 8191 by omega, al_order]
    exact (congrArg (fun y => y * al (8191 - Gfm.lg x.1)) (lg_al hx)).symm.trans e
  · rw [h1]
    have e : invN x.1 = (al (8191 - Gfm.lg x.1)).1 := by unfold invN; rw [if_neg (by omega), al_val]
    rw [e]
theorem xor_F (x y : F) : bits .xor .i64 (x.1 : Int) (y.1 : Int) = ((x + y).1 : Int) := i64_xor_nat _ _ (by have := x.2; omega) (by have := y.2; omega)
/-- a beginning of a slice of int of the call's own -/
theorem OwnI.head {w : World} {B : Nat} {v : Value} {xs : List Int} (h : OwnI w B v xs) (h0 : 0 < xs.length) (k : Nat) (hk : k ≤ xs.length) :
    ∃ g cap, v = .slice (some ⟨g, 0, none⟩) xs.length cap ∧ xs.length ≤ cap ∧ B ≤ g ∧ OwnI w B (.slice (some ⟨g, 0, none⟩) k cap) (xs.take k) := by
  obtain ⟨hl, h⟩ := h
  rcases h with ⟨_, h2⟩ | ⟨g, cap, cur, rfl, hb, hg, hnc, hcm, hsz, htake⟩
  · omega
  · have hk' : (xs.take k).length = k := by rw [List.length_take]; omega
    unfold OwnI
    rw [hk']
    refine ⟨g, cap, rfl, hnc, hb, by simp [vals]; omega, .inr ⟨g, cap, cur, rfl, hb, hg, by omega, hcm, hsz, ?_⟩⟩
    have e : cur.toList.take (k * 1) = (cur.toList.take (xs.length * 1)).take k := by rw [List.take_take]; congr 1; omega
    rw [e, htake]
    simp [vals, List.map_take]
theorem OwnI.far {w w' : World} {B c : Nat} {v : Value} {xs : List Int} (h : OwnI w B v xs) (hc : c < B) (hu : Upd (oneBlock c) w w') : OwnI w' B v xs := h.upd hu fun g hg e => by have := h.lt g hg; have e' : g = c := e; omega
set_option maxRecDepth 100000 in
set_option maxHeartbeats 3200000 in
theorem gap_any (c t : Nat) (k : Int) (C S : Nat → F) (N n B : Nat) (v v' : Value) (w : World) (h : MadeB B w c t k) (hr : OwnI w B v (il N C)) (hs : OwnI w B v' (il (n + 1) S)) (hN0 : 0 < N) (hN : N ≤ 1000) (hn : n ≤ 1000) (hC : ∀ i, N ≤ i → C i = 0) :
    Calls Try.prog 52 #[.pointer (some ⟨c, 0, none⟩), v, v'] w fun e w' => e = .returned (.int .i64 ((cv C S n).1 : Int)) ∧ MadeB B w' c t k ∧ Upd (oneBlock c) w w' := by
  have hcB := h.lt
  have HM := Lib.hid h
  obtain ⟨mn, hmn⟩ : ∃ mn, min N (n + 1) = mn := ⟨_, rfl⟩
  have HG := Lib.hid (gp_all C S n N hC)
  rw [hmn] at HG
  have HGS : Hid (∀ j, gp C S n (j + 1) = gp C S n j + C j * S (n - j)) := fun j => rfl
  have HG0 : Hid (gp C S n 0 = 0) := rfl
  have HMUL := Lib.hid (fun x y W hW => mul_F B c t k x y W hW)
  have HR := Lib.hid hr
  have HS := Lib.hid hs
  obtain ⟨g, cap, rfl, hg, _, _, _, _⟩ := hr.cells (by rw [il_length]; exact hN0)
  obtain ⟨g', cap', rfl, hg', _, _, _, _⟩ := hs.cells (by rw [il_length]; omega)
  rw [il_length] at HR
  rw [il_length] at HS
  rw [il_length, il_length]
  have hmin : min (N : Int) ((n + 1 : Nat) : Int) = (mn : Int) := by omega
  have hm1 : mn ≤ N := by omega
  have hm2 : mn ≤ n + 1 := by omega
  have HMN : Hid (min N (n + 1) = mn) := hmn
  clear h hr hs hmn
  go_enter Try.func52, Try.ntmps52
  obtain ⟨n1, hn1⟩ : ∃ n1, n + 1 = n1 := ⟨_, rfl⟩
  have HN1 : Hid (n + 1 = n1) := hn1
  rw [hn1] at HS hmin hm2 ⊢
  have hn1b : n1 ≤ 1001 := by omega
  clear hn1
  go_wp2
  go_loopw [7, 14] (fun s i wr => ∃ j : Nat, j ≤ mn ∧ i = .int .i64 (j : Int) ∧ s = .int .i64 ((gp C S n j).1 : Int) ∧ Hid (MadeB B wr c t k) ∧ Hid (Upd (oneBlock c) w wr)) (fun _ i _ => mn - (intOf i).toNat)
  case atStart => exact ⟨0, Nat.zero_le _, rfl, rfl, HM, Upd.refl _ _⟩
  case round =>
    clear HM
    obtain ⟨j, hj, rfl, rfl, HM, HU⟩ := hrel
    by_cases h0 : j < mn
    · have HMU := Lib.hid (fun W hW => HMUL.out (C j) (S (n - j)) W hW)
      have HX := xor_F (gp C S n j) (C j * S (n - j))
      have HNX := Lib.hid (HGS.out j)
      obtain ⟨_, _, e1, _, _, q1, _, _⟩ := (HR.out.far hcB HU.out).cells (by rw [il_length]; exact hN0)
      obtain ⟨_, _, e2, _, _, q2, _, _⟩ := (HS.out.far hcB HU.out).cells (by rw [il_length]; have := HN1.out; omega)
      rw [il_length] at e1 e2 q1 q2
      cases e1
      cases e2
      have p1 := q1 j (by omega)
      have p2 := q2 (n - j) (by have := HN1.out; omega)
      rw [il_getD N C j (by omega)] at p1
      rw [il_getD n1 S (n - j) (by have := HN1.out; omega)] at p2
      clear q1 q2
      have d1 : wr.drew.cell? ⟨g, j, none⟩ = _ := p1
      have d2 : wr.drew.cell? ⟨g', n - j, none⟩ = _ := p2
      obtain ⟨m, hm⟩ : ∃ m, n - j = m := ⟨_, rfl⟩
      have hw1 : IntKind.i64.wrap ((n1 : Int) - 1) = (n1 : Int) - 1 := by rw [IntKind.wrap_i64]; omega
      have hw2 : IntKind.i64.wrap ((n1 : Int) - 1 - (j : Int)) = (m : Int) := by have := HN1.out; rw [IntKind.wrap_i64]; omega
      have hmn1 : m < n1 := by have := HN1.out; omega
      have hjN : j < N := by omega
      have hM1 : Hid (MadeB B wr.drew c t k) := HM.out.grow ((Upd.refl noBlock wr).drew)
      rw [hm] at HMU HX HNX p2 d2
      clear hm
      generalize gp C S n j = s0 at *
      go_wp2_with fail
      go_region_with (go_at_call 55; (with_reducible refine (HMU.out _ hM1.out).mono ?_); rintro e w2 ⟨rfl, hm2, hu2⟩; have M2 := Lib.hid hm2; have U2 := Lib.hid hu2; clear hm2 hu2)
      all_goals
        go_wp2
        go_roundw
        case rel => exact ⟨j + 1, by omega, by go_num, congrArg (fun z : F => Value.int .i64 (z.1 : Int)) HNX.out.symm, M2, HU.out.drew.trans U2.out⟩
        case measure => simp [intOf]; omega
    · obtain rfl : j = mn := by omega
      go_wp2
      go_ret
      exact ⟨congrArg (fun z : F => Ending.returned (Value.int .i64 (z.1 : Int))) HG.out, HM.out, HU.out⟩
end Go.Proofs.Ytjfbbnmonfankaa

/- The exponents of a remainder. -/
namespace Go.Proofs.Ytjfbbnmonfankaa
open Go.RowKit Pm
set_option linter.unusedVariables false

theorem top_at {x t : Nat} (h1 : 2 ^ t ≤ x) (h2 : x < 2 ^ (t + 1)) : x.testBit t = true ∧ ∀ i, t < i → x.testBit i = false := by
  refine ⟨?_, fun i hi => Nat.testBit_lt_two_pow (Nat.lt_of_lt_of_le h2 (Nat.pow_le_pow_right (by omega) hi))⟩
  rw [Nat.testBit_eq_decide_div_mod_eq]
  have h3 : x / 2 ^ t = 1 := by
    rw [Nat.pow_succ] at h2
    exact Nat.le_antisymm (Nat.le_of_lt_succ ((Nat.div_lt_iff_lt_mul (Nat.two_pow_pos t)).2 (by omega))) ((Nat.le_div_iff_mul_le (Nat.two_pow_pos t)).2 (by omega))
  rw [h3]; rfl
/-- the first bit that is set -/
theorem first_high {r : Rm} (hr : r.Ok) (h : r.h ≠ 0) : ∃ n : Nat, n < 64 ∧ ((64 : Int) - (Lib.bitLen r.h : Int) = ((n : Nat) : Int)) ∧ rb r n = true ∧ ∀ j, j < n → rb r j = false := by
  obtain ⟨t, ht, e, l, u⟩ := bitLen_spec r.h (by omega) (by rw [two64]; exact hr.1)
  obtain ⟨k1, k2⟩ := top_at l u
  refine ⟨63 - t, by omega, by rw [e]; omega, ?_, fun j hj => ?_⟩
  · rw [rb_lo _ _ (by omega), show 63 - (63 - t) = t by omega]; exact k1
  · rw [rb_lo _ _ (by omega)]; exact k2 _ (by omega)
theorem first_low {r : Rm} (hr : r.Ok) (h : r.h = 0) (hl : r.l ≠ 0) : ∃ n : Nat, 64 ≤ n ∧ n < 128 ∧ (64 : Int) - (Lib.bitLen r.l : Int) = ((n - 64 : Nat) : Int) ∧ rb r n = true ∧ ∀ j, j < n → rb r j = false := by
  obtain ⟨t, ht, e, l, u⟩ := bitLen_spec r.l (by omega) (by rw [two64]; exact hr.2)
  obtain ⟨k1, k2⟩ := top_at l u
  refine ⟨127 - t, by omega, by omega, by rw [e]; omega, ?_, fun j hj => ?_⟩
  · rw [rb_mid _ _ (by omega) (by omega), show 127 - (127 - t) = t by omega]; exact k1
  · by_cases h1 : j < 64
    · rw [rb_lo _ _ h1, h]; exact Nat.zero_testBit _
    · rw [rb_mid _ _ h1 (by omega)]; exact k2 _ (by omega)
/-- the exponents of the first q bits -/
def exq (r : Rm) (d : Nat) : Nat → List Int | 0 => [] | q + 1 => if rb r q then exq r d q ++ [((d - 1 - q : Nat) : Int)] else exq r d q
theorem exq_length (r : Rm) (d q : Nat) : (exq r d q).length ≤ q := by
  induction q with
  | zero => exact Nat.le_refl _
  | succ q ih =>
    unfold exq
    split
    · rw [List.length_append]; simp; exact ih
    · omega
theorem exq_skip (r : Rm) (d q m : Nat) (h : ∀ j, q ≤ j → j < q + m → rb r j = false) : exq r d (q + m) = exq r d q := by
  induction m with
  | zero => rfl
  | succ m ih =>
    show (if rb r (q + m) then _ else exq r d (q + m)) = _
    rw [h (q + m) (by omega) (by omega), ih fun j h1 h2 => h j h1 (by omega)]
    rfl
/-- the first q bits cleared -/
def Clr (r cur : Rm) (q : Nat) : Prop := cur.Ok ∧ ∀ j, j < 128 → rb cur j = (decide (q ≤ j) && rb r j)
theorem Clr.next {r cur : Rm} {d q n : Nat} (h : Clr r cur q) (hn : n < 128) (hb : rb cur n = true) (hf : ∀ j, j < n → rb cur j = false) :
    Clr r (cur.plus (Rm.bit n)) (n + 1) ∧ exq r d (n + 1) = exq r d q ++ [((d - 1 - n : Nat) : Int)] ∧ q ≤ n ∧ rb r n = true := by
  have hq : q ≤ n ∧ rb r n = true := by
    have := h.2 n hn
    rw [hb] at this
    have := (Bool.and_eq_true_iff ..).1 this.symm
    exact ⟨of_decide_eq_true this.1, this.2⟩
  refine ⟨⟨h.1.plus (Rm.bit_ok _ hn), fun j hj => ?_⟩, ?_, hq⟩
  · rw [rb_plus, rb_bit _ _ hn]
    by_cases e : j = n
    · rw [e, hb, decide_eq_true rfl, decide_eq_false (by omega)]; rfl
    · rw [decide_eq_false e]
      by_cases hl : j < n
      · rw [hf j hl, decide_eq_false (by omega)]; rfl
      · rw [h.2 j hj, decide_eq_true (show q ≤ j by omega), decide_eq_true (show n + 1 ≤ j by omega)]
        cases rb r j <;> rfl
  · show (if rb r n then exq r d n ++ _ else _) = _
    rw [hq.2, if_pos rfl]
    congr 1
    obtain ⟨m, rfl⟩ : ∃ m, n = q + m := ⟨n - q, by omega⟩
    refine exq_skip r d q m fun j h1 h2 => ?_
    have := h.2 j (by omega)
    rw [hf j h2, decide_eq_true h1] at this
    exact this.symm
theorem Clr.stop {r cur : Rm} {d q : Nat} (h : Clr r cur q) (hz : cur = Rm.zero) (hd : d ≤ 128) (hr : ∀ j, d ≤ j → rb r j = false) (hq : q ≤ d) : exq r d d = exq r d q := by
  obtain ⟨m, rfl⟩ : ∃ m, d = q + m := ⟨d - q, by omega⟩
  refine exq_skip r _ q m fun j h1 h2 => ?_
  have := h.2 j (by omega)
  rw [hz, rb_zero, decide_eq_true h1] at this
  exact this.symm
def slen (v : Value) : Nat := match v with | .slice _ n _ => n | _ => 0
theorem OwnI.slen {w : World} {B : Nat} {v : Value} {xs : List Int} (h : OwnI w B v xs) : slen v = xs.length := by
  obtain ⟨a, c, rfl, _⟩ := h.sl; rfl
set_option maxRecDepth 100000 in
set_option maxHeartbeats 3200000 in
theorem exponents_any (r : Rm) (d : Nat) (w : World) (hr : r.Ok) (hd : d ≤ 120) (hz : ∀ j, d ≤ j → rb r j = false) :
    Calls Try.prog 57 #[r.agg, .int .i64 (d : Int)] w fun e w' => ∃ v, e = .returned v ∧ OwnI w' w.heap.size v (exq r d d) ∧ Upd noBlock w w' := by
  obtain ⟨i0, hi0, hz0, hz1, hz2⟩ := intPartsI
  have HC0 : Hid (Clr r r 0) := ⟨hr, fun j _ => by rw [decide_eq_true (Nat.zero_le _), Bool.true_and]⟩
  have HZ := Lib.hid hz
  clear hr hz
  unfold Rm.agg
  go_enter Try.func57, Try.ntmps57
  go_wp2_with fail
  obtain ⟨wa, hwa⟩ : ∃ wa, wa = w.alloc (.cells #[.int .u64 (r.h : Int), .int .u64 (r.l : Int)] 64) := ⟨_, rfl⟩
  have U0 : Hid (Upd noBlock w wa) := by rw [hwa]; exact (Upd.refl _ _).alloc _
  have B0 : Hid (RB wa w.heap.size r) := by rw [hwa]; exact heap_alloc_new w _
  rw [← hwa]
  clear hwa
  go_loopw [5] (fun v wr => ∃ (q : Nat) (cur : Rm), q ≤ d ∧ Hid (OwnI wr (w.heap.size + 1) v (exq r d q)) ∧ Hid (RB wr w.heap.size cur) ∧ Hid (Clr r cur q) ∧ Hid (Upd noBlock w wr)) (fun v _ => 200 - slen v)
  case atStart => exact ⟨0, _, Nat.zero_le _, OwnI.nil _ _, B0, HC0, U0⟩
  case round =>
    clear B0 HC0 U0
    obtain ⟨q, cur, hq, HO, HB, HC, HU⟩ := hrel
    have hok := HC.out.1
    by_cases hzero : cur.h = 0 ∧ cur.l = 0
    · obtain ⟨ch, cl⟩ := cur
      obtain ⟨rfl, rfl⟩ : ch = 0 ∧ cl = 0 := hzero
      have HE := Lib.hid (HC.out.stop rfl (by omega) HZ.out hq)
      have k1 := HB.out.h
      have k2 := HB.out.l
      go_wp2
      go_ret
      exact ⟨_, rfl, by rw [HE.out]; exact HO.out.more (Nat.le_succ _), HU.out⟩
    · have key : ∃ n : Nat, n < 128 ∧ rb cur n = true ∧ (∀ j, j < n → rb cur j = false) ∧ ((cur.h ≠ 0 ∧ (64 : Int) - (Lib.bitLen cur.h : Int) = (n : Int)) ∨ (cur.h = 0 ∧ cur.l ≠ 0 ∧ 64 ≤ n ∧ (64 : Int) - (Lib.bitLen cur.l : Int) = ((n - 64 : Nat) : Int))) := by
        by_cases hh : cur.h = 0
        · obtain ⟨n, h1, h2, h3, h4, h5⟩ := first_low hok hh (fun e => hzero ⟨hh, e⟩)
          exact ⟨n, h2, h4, h5, .inr ⟨hh, fun e => hzero ⟨hh, e⟩, h1, h3⟩⟩
        · obtain ⟨n, h1, h2, h3, h4⟩ := first_high hok hh
          exact ⟨n, by omega, h3, h4, .inl ⟨hh, h2⟩⟩
      obtain ⟨n, hn, hbn, hbf, hcase⟩ := key
      obtain ⟨HC2, hex, hqn, hrn⟩ := HC.out.next (d := d) hn hbn hbf
      have hnd : n < d := by
        by_cases h : n < d
        · exact h
        · rw [HZ.out n (by omega)] at hrn; cases hrn
      have HC3 := Lib.hid HC2
      have HNX := Lib.hid hex
      have HLEN : Hid ((exq r d q).length ≤ 120) := by have := exq_length r d q; show _ ≤ _; omega
      have hbok := Rm.bit_ok n hn
      have HBIT := Lib.hid (fun W => bitAt_any n W hn)
      have HPL := Lib.hid (fun W => plus_any cur (Rm.bit n) W hok hbok)
      have HLZ : Hid (∀ (x : Nat) (v : Int) W, x < 18446744073709551616 → (64 : Int) - (Lib.bitLen x : Int) = v → Calls Try.prog 76 #[.int .u64 (x : Int)] W fun e w' => e = .returned (.int .i64 v) ∧ W = w') := fun x v W h hv => (Try.bits_LeadingZeros64 (x : Int) W (by omega) (by omega)).mono fun e w' ⟨h1, h2⟩ => ⟨by rw [h1, Int.toNat_natCast, hv], h2.symm⟩
      have hw1 : IntKind.i64.wrap ((d : Int) - 1) = (d : Int) - 1 := by rw [IntKind.wrap_i64]; omega
      obtain ⟨z, hz⟩ : ∃ z : Nat, d - 1 - n = z := ⟨_, rfl⟩
      have hw2 : IntKind.i64.wrap ((d : Int) - 1 - (n : Int)) = (z : Int) := by rw [IntKind.wrap_i64]; omega
      rw [hz] at HNX
      generalize exq r d q = L at *
      generalize hrr : cur.plus (Rm.bit n) = nxt at *
      have HO2 := Lib.hid (HO.out.grow ((Upd.refl noBlock wr).alloc (.cells #[.int .i64 (z : Int)] 3)))
      have HU2 := Lib.hid (HU.out.alloc (.cells #[.int .i64 (z : Int)] 3))
      have HB2 := Lib.hid (block_alloc HB.out (.cells #[.int .i64 (z : Int)] 3))
      have HI := Lib.hid (ints_one wr (z : Int))
      have hbase := HU.out.size
      have hlt := lt_of_block HB.out
      have HAFT : Hid (∀ w3 own, (wr.alloc (.cells #[.int .i64 (z : Int)] 3)).grownBy w3 own → (∀ i, own = some i → w.heap.size + 1 ≤ i) → RB w3 w.heap.size cur ∧ Upd noBlock w w3) := fun w3 own hg ho =>
        ⟨(hg.block w.heap.size (by rw [World.size_alloc]; omega) (fun e => by have := ho _ e.symm; omega)).trans HB2.out, upd_of_grown HU2.out hg (fun i hi => .inr (by have := ho i hi; omega))⟩
      have HST : Hid (∀ W v, OwnI W (w.heap.size + 1) v (L ++ [(z : Int)]) → RB W w.heap.size cur → Upd noBlock w W → ∀ W2, Upd noBlock W W2 → OwnI ((W2.setCell ⟨w.heap.size, 0, none⟩ (.int .u64 (nxt.h : Int))).setCell ⟨w.heap.size, 1, none⟩ (.int .u64 (nxt.l : Int))) (w.heap.size + 1) v (L ++ [(z : Int)]) ∧ RB ((W2.setCell ⟨w.heap.size, 0, none⟩ (.int .u64 (nxt.h : Int))).setCell ⟨w.heap.size, 1, none⟩ (.int .u64 (nxt.l : Int))) w.heap.size nxt ∧ Upd noBlock w ((W2.setCell ⟨w.heap.size, 0, none⟩ (.int .u64 (nxt.h : Int))).setCell ⟨w.heap.size, 1, none⟩ (.int .u64 (nxt.l : Int)))) := fun W v hO hB hU W2 h2 =>
        ⟨hO.upd ((((h2.one : Upd (oneBlock w.heap.size) W W2).setCell (p := ⟨w.heap.size, 0, none⟩) (.inl rfl) _)).setCell (p := ⟨w.heap.size, 1, none⟩) (.inl rfl) _) (fun g hg e => by have := hO.lt g hg; have e' : g = w.heap.size := e; omega), (hB.grow h2).set _, ((hU.trans h2).setCell (p := ⟨w.heap.size, 0, none⟩) (.inr (Nat.le_refl _)) _).setCell (p := ⟨w.heap.size, 1, none⟩) (.inr (Nat.le_refl _)) _⟩
      have k1 := HB.out.h
      have k2 := HB.out.l
      clear hzero hbn hbf HC2 hex hz hrn
      rcases hcase with ⟨hh, hl⟩ | ⟨hh, hl0, hn64, hl⟩
      · have hc1 : ((cur.h : Int) == 0) = false := beq_eq_false_iff_ne.2 (by omega)
        have HL1 := Lib.hid (fun W => HLZ.out cur.h _ W hok.1 hl)
        clear hl HLZ
        go_wp2_with (first
          | (go_at_call 76; (with_reducible refine (HL1.out _).mono ?_); rintro e w' ⟨rfl, rfl⟩)
          | (at_builtin; refine wpList_append_ints _ rfl (.tmp 21) (.tmp 26) _ rfl (w.heap.size + 1) 3 i0 _ Try.underlying34 hi0 hz0 hz1 hz2 rfl _ L.length (vals L) rfl HO2.out (wr.heap.size + 1) (some ⟨wr.heap.size, 0, none⟩) 1 1 [(z : Int)] rfl HI.out (by have := HLEN.out; simp only [maxLen]; omega) (by have := HLEN.out; omega) (by simp; omega) ?_; intro v3 w3 hown3 hg3 _; have F3 := Lib.hid (HAFT.out _ _ hg3 (fun i hi => HO2.out.lt i hi)); have O3 := Lib.hid (OwnI.snoc rfl hown3); have b1 := F3.out.1.h; have b2 := F3.out.1.l; have d1 : w3.drew.cell? ⟨w.heap.size, 0, none⟩ = _ := F3.out.1.h; have d2 : w3.drew.cell? ⟨w.heap.size, 1, none⟩ = _ := F3.out.1.l; have e1 : w3.drew.frozen? ⟨w.heap.size, 0, none⟩ = false := F3.out.1.f 0; have e2 : w3.drew.frozen? ⟨w.heap.size, 1, none⟩ = false := F3.out.1.f 1; have HRB := Lib.hid (fun W (hW : Upd noBlock w3 W) => F3.out.1.grow hW); clear hown3 hg3))
        unfold Rm.agg at HBIT HPL
        go_region_with (first
          | (go_at_call 47; refine (HBIT.out _).mono ?_; rintro e w4 ⟨rfl, u4⟩; have v4 := ((Upd.refl noBlock w3).drew).trans u4; have k2' := (HRB.out w4 v4).h; have k3' := (HRB.out w4 v4).l)
          | (go_at_call 25; refine (HPL.out _).mono ?_; rintro e w5 ⟨rfl, u5⟩; have v5 := v4.trans u5; have k6 := (HRB.out w5 v5).h; have k7 := (HRB.out w5 v5).l; have k8 := (HRB.out w5 v5).f 0; have k9 := (HRB.out w5 v5).f 1))
        all_goals
          have hfin := HST.out _ _ O3.out F3.out.1 F3.out.2 w5 v5
          have G1 := Lib.hid hfin.1
          have G2 := Lib.hid hfin.2.1
          have G3 := Lib.hid hfin.2.2
          have HSL := Lib.hid G1.out.slen
          have HSV := Lib.hid HO.out.slen
          clear hfin
          go_wp2
          go_roundw
          case rel => exact ⟨n + 1, nxt, by omega, by rw [HNX.out]; exact G1, G2, HC3, G3⟩
          case measure => rw [HSL.out, HSV.out, List.length_append]; have := HLEN.out; show 200 - (_ + 1) < _; omega
      · have hc1 : ((cur.l : Int) == 0) = false := beq_eq_false_iff_ne.2 (by omega)
        have HL1 : Hid (∀ W, Calls Try.prog 76 #[.int .u64 0] W fun e w' => e = .returned (.int .i64 64) ∧ W = w') := fun W => HLZ.out 0 64 W (by omega) (by decide)
        have HL2 := Lib.hid (fun W => HLZ.out cur.l _ W hok.2 hl)
        have hw3 : IntKind.i64.wrap ((64 : Int) + ((n - 64 : Nat) : Int)) = (n : Int) := by rw [IntKind.wrap_i64]; omega
        have hh0 : (cur.h : Int) = 0 := by omega
        rw [hh0] at k1
        clear hl HLZ hh0 hh
        go_wp2_with (first
          | (go_at_call 76; (with_reducible refine (HL1.out _).mono ?_); rintro e w' ⟨rfl, rfl⟩)
          | (go_at_call 76; (with_reducible refine (HL2.out _).mono ?_); rintro e w' ⟨rfl, rfl⟩)
          | (at_builtin; refine wpList_append_ints _ rfl (.tmp 21) (.tmp 26) _ rfl (w.heap.size + 1) 3 i0 _ Try.underlying34 hi0 hz0 hz1 hz2 rfl _ L.length (vals L) rfl HO2.out (wr.heap.size + 1) (some ⟨wr.heap.size, 0, none⟩) 1 1 [(z : Int)] rfl HI.out (by have := HLEN.out; simp only [maxLen]; omega) (by have := HLEN.out; omega) (by simp; omega) ?_; intro v3 w3 hown3 hg3 _; have F3 := Lib.hid (HAFT.out _ _ hg3 (fun i hi => HO2.out.lt i hi)); have O3 := Lib.hid (OwnI.snoc rfl hown3); have b1 := F3.out.1.h; have b2 := F3.out.1.l; have d1 : w3.drew.cell? ⟨w.heap.size, 0, none⟩ = _ := F3.out.1.h; have d2 : w3.drew.cell? ⟨w.heap.size, 1, none⟩ = _ := F3.out.1.l; have e1 : w3.drew.frozen? ⟨w.heap.size, 0, none⟩ = false := F3.out.1.f 0; have e2 : w3.drew.frozen? ⟨w.heap.size, 1, none⟩ = false := F3.out.1.f 1; have HRB := Lib.hid (fun W (hW : Upd noBlock w3 W) => F3.out.1.grow hW); clear hown3 hg3))
        unfold Rm.agg at HBIT HPL
        go_region_with (first
          | (go_at_call 47; refine (HBIT.out _).mono ?_; rintro e w4 ⟨rfl, u4⟩; have v4 := ((Upd.refl noBlock w3).drew).trans u4; have k2' := (HRB.out w4 v4).h; have k3' := (HRB.out w4 v4).l)
          | (go_at_call 25; refine (HPL.out _).mono ?_; rintro e w5 ⟨rfl, u5⟩; have v5 := v4.trans u5; have k6 := (HRB.out w5 v5).h; have k7 := (HRB.out w5 v5).l; have k8 := (HRB.out w5 v5).f 0; have k9 := (HRB.out w5 v5).f 1))
        all_goals
          have hfin := HST.out _ _ O3.out F3.out.1 F3.out.2 w5 v5
          have G1 := Lib.hid hfin.1
          have G2 := Lib.hid hfin.2.1
          have G3 := Lib.hid hfin.2.2
          have HSL := Lib.hid G1.out.slen
          have HSV := Lib.hid HO.out.slen
          clear hfin
          go_wp2
          go_roundw
          case rel => exact ⟨n + 1, nxt, by omega, by rw [HNX.out]; exact G1, G2, HC3, G3⟩
          case measure => rw [HSL.out, HSV.out, List.length_append]; have := HLEN.out; show 200 - (_ + 1) < _; omega
end Go.Proofs.Ytjfbbnmonfankaa
