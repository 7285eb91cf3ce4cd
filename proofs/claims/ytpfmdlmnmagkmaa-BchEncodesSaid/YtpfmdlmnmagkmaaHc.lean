/- Walks over package gf: prepare, product, and the calls. -/
import Derived.Test.YtpfmdlmnmagkmaaHb
import Derived.Deep.QuietTactic
import Derived.BigQuiet
namespace Go.Proofs.Ytpfmdlmnmagkmaa
open Go.RowKit Gfm

set_option maxRecDepth 100000 in
set_option maxHeartbeats 800000 in
/-- prepare: the tables are there -/
theorem prepare_any (b : Spt) (n : Int) (w : World) (h : Fld w b n) :
    Calls Try.prog 74 #[.pointer (some ⟨b.blk, b.off, none⟩)] w fun e w' => e = .returned (.tuple #[]) ∧ Ready w' b n ∧ Upd (oneBlock b.blk) w w' := by
  have hbs := h.lt
  have hmf : ∀ (fn : Fn) (first cap : Array Value) (w : World), (Instr.makeFunc fn first cap).run Try.prog w = .ok (.func fn first cap) w := fun _ _ _ _ => rfl
  have hne : ¬ w.heap.size = b.blk := by omega
  rcases h with h | h
  · have HB := Lib.hid (FB.alloc h (.cells #[.pointer (some ⟨b.blk, b.off, none⟩)] 84))
    clear h
    go_enter Try.func74, Try.ntmps74
    go_wp2_with (go_at_call 30; refine (do_first b _ _ _ _ _ _ hne (by simp) HB.out).mono ?_; rintro e w' ⟨rfl, HF⟩)
    go_end0
    obtain ⟨pb, lb, g1, g2, g3, hh, hp, hl, hu⟩ := HF
    exact ⟨rfl, ⟨pb, lb, hh, hp, hl⟩, ((Upd.refl (oneBlock b.blk) w).alloc _).trans hu⟩
  · obtain ⟨pb, lb, hb, hp, hl⟩ := h
    have HB := Lib.hid (FB.alloc hb (.cells #[.pointer (some ⟨b.blk, b.off, none⟩)] 84))
    have HR : Hid (Ready (w.alloc (.cells #[.pointer (some ⟨b.blk, b.off, none⟩)] 84)) b n) := Ready.keep ⟨pb, lb, hb, hp, hl⟩ ((Upd.refl noBlock w).alloc _)
    clear hb hp hl
    go_enter Try.func74, Try.ntmps74
    go_wp2_with (go_at_call 30; refine (do_done ⟨b.blk, b.off, none⟩ _ _ HB.out.c0).mono ?_; rintro e w' ⟨rfl, rfl⟩)
    go_end0
    exact ⟨rfl, HR.out, (Upd.refl (oneBlock b.blk) w).alloc _⟩

/-- product: of two elements, the tables being there -/
def prodN (a c : Nat) : Nat := if a = 0 ∨ c = 0 then 0 else pw (lg a + lg c)
theorem prodN_eq (a c : Nat) (ha : a < 8192) (hc : c < 8192) : prodN a c = mul a c := by
  unfold prodN
  by_cases h : a = 0 ∨ c = 0
  · rw [if_pos h]
    rcases h with rfl | rfl
    · rw [zero_mul]
    · rw [mul_zero]
  · rw [if_neg h, prod_eq _ _ (by omega) (by omega) ha hc]

set_option maxRecDepth 100000 in
set_option maxHeartbeats 800000 in
theorem product_any (b : Spt) (a c : Nat) (n : Int) (w : World) (h : Ready w b n) (ha : a < 8192) (hc : c < 8192) :
    Calls Try.prog 75 #[.pointer (some ⟨b.blk, b.off, none⟩), .int .i64 (a : Int), .int .i64 (c : Int)] w fun e w' => e = .returned (.int .i64 (mul a c : Nat)) ∧ ∃ k, w' = w.drewN k := by
  rw [← prodN_eq a c ha hc]
  by_cases h1 : a = 0
  · subst h1
    have : prodN 0 c = 0 := by simp [prodN]
    rw [this]
    go_enter Try.func75, Try.ntmps75
    go_wp2
    go_ret
    exact ⟨rfl, 0, rfl⟩
  · by_cases h2 : c = 0
    · subst h2
      have : prodN a 0 = 0 := by simp [prodN]
      rw [this]
      have t1 : ((a : Int) == 0) = false := by simp; omega
      go_enter Try.func75, Try.ntmps75
      go_wp2
      go_ret
      exact ⟨rfl, 0, rfl⟩
    · have t1 : ((a : Int) == 0) = false := by simp; omega
      have t2 : ((c : Int) == 0) = false := by simp; omega
      have hv : prodN a c = pw (lg a + lg c) := by rw [prodN, if_neg (by omega)]
      rw [hv]
      obtain ⟨pb, lb, hb, hp, hl⟩ := h
      have c3 : w.cell? ⟨b.blk, b.off + 3, none⟩ = some (.slice (some ⟨pb, 0, none⟩) 16382 16382) := hb.c3
      have c4 : w.cell? ⟨b.blk, b.off + 4, none⟩ = some (.slice (some ⟨lb, 0, none⟩) 8192 8192) := hb.c4
      have k1 := lg_lt a
      have k2 := lg_lt c
      have l1 : w.cell? ⟨lb, a, none⟩ = some (.int .i64 ((lg a : Nat) : Int)) := hl.cell (i := a) ha
      have l2 : w.cell? ⟨lb, c, none⟩ = some (.int .i64 ((lg c : Nat) : Int)) := hl.cell (i := c) hc
      have p1 : w.cell? ⟨pb, lg a + lg c, none⟩ = some (.int .i64 ((pw (lg a + lg c) : Nat) : Int)) := by
        have := hp.cell (i := lg a + lg c) (by omega)
        rw [this]
        unfold powRow
        by_cases g : lg a + lg c < 8191
        · rw [if_pos g]
        · rw [if_neg g, if_pos (by omega)]
      clear hb hp hl hv
      generalize lg a = x at *
      generalize lg c = y at *
      have s1 : IntKind.i64.wrap ((x : Int) + (y : Int)) = (x : Int) + (y : Int) := IntWalk.i64_in _ (by omega)
      have s2 : ((x : Int) + (y : Int)).toNat = x + y := by omega
      have s3 : (0 : Int) ≤ (x : Int) + (y : Int) := by omega
      have s4 : (x : Int) + (y : Int) < 16382 := by omega
      go_enter Try.func75, Try.ntmps75
      go_wp2
      go_quiet (fail)
      go_wp2
      go_ret
      exact ⟨rfl, _, rfl⟩

/-! ### the calls -/
def low (a : Int) : Nat := (a % 8192).toNat
theorem low_lt (a : Int) : low a < 8192 := by unfold low; omega
theorem low_eq (a : Int) : a % 8192 = ((low a : Nat) : Int) := by unfold low; omega
theorem Fld.drewN {w : World} {b : Spt} {n : Int} (h : Fld w b n) (k : Nat) : Fld (w.drewN k) b n := h
theorem Ready.drewN {w : World} {b : Spt} {n : Int} (h : Ready w b n) (k : Nat) : Ready (w.drewN k) b n := h

/-- the count of products, one more -/
theorem Fld.counted {w : World} {b : Spt} {n : Int} (h : Fld w b n) (m : Int) : Fld (w.setCell ⟨b.blk, b.off + 5, none⟩ (.int .i64 m)) b m := by
  rcases h with h | ⟨pb, lb, h, hp, hl⟩
  · exact .inl (FB.set5 h _)
  · exact .inr ⟨pb, lb, h.set5 _, hp.setOther (rowIs_ne hp h.block.choose_spec) _, hl.setOther (rowIs_ne hl h.block.choose_spec) _⟩
theorem Fld.cell5 {w : World} {b : Spt} {n : Int} (h : Fld w b n) : w.cell? ⟨b.blk, b.off + 5, none⟩ = some (.int .i64 n) ∧ w.frozen? ⟨b.blk, b.off + 5, none⟩ = false := by
  rcases h with h | ⟨pb, lb, h, hp, hl⟩
  · exact ⟨FB.c5 h, FB.fr h _⟩
  · exact ⟨FB.c5 h, FB.fr h _⟩

set_option maxRecDepth 100000 in
set_option maxHeartbeats 800000 in
theorem mul_any (b : Spt) (n a c : Int) (w : World) (h : Fld w b n) (hn : 0 ≤ n ∧ n < 1000000) :
    Calls Try.prog 55 #[.pointer (some ⟨b.blk, b.off, none⟩), .int .i64 a, .int .i64 c] w fun e w' =>
      e = .returned (.int .i64 (mul (low a) (low c) : Nat)) ∧ Ready w' b (n + 1) ∧ Upd (oneBlock b.blk) w w' := by
  obtain ⟨hc5, hz5⟩ := h.cell5
  have hadd := run_call_add (P := Try.prog) Try.func84 (by kernel_rfl) (by kernel_rfl) (by kernel_rfl) .i64 (by kernel_rfl) (y := 1) (s := n + 1) hc5 hz5 (by
    have : IntKind.i64.wrap (n + 1) = n + 1 := IntWalk.i64_in _ (by omega)
    simp [go_sem, this])
  have m1 : bits .and .i64 a 8191 = ((low a : Nat) : Int) := by rw [i64_8191, low_eq]
  have m2 : bits .and .i64 c 8191 = ((low c : Nat) : Int) := by rw [i64_8191, low_eq]
  have HF := Lib.hid (h.counted (n + 1))
  have HU : Hid (Upd (oneBlock b.blk) w (w.setCell ⟨b.blk, b.off + 5, none⟩ (.int .i64 (n + 1)))) := (Upd.refl (oneBlock b.blk) w).setCell (p := ⟨b.blk, b.off + 5, none⟩) (.inl rfl) _
  clear h
  go_enter Try.func55, Try.ntmps55
  go_wp2_with (first | (go_at_call 73; go_in) | (go_at_call 74; refine (prepare_any b (n + 1) _ HF.out).mono ?_; rintro e w1 ⟨rfl, HR0, HV0⟩; have HR := Lib.hid HR0; have HV := Lib.hid HV0; clear HR0 HV0) | (go_at_call 75; refine (product_any b (low a) (low c) (n + 1) _ HR.out (low_lt a) (low_lt c)).mono ?_; rintro e w2 ⟨rfl, k, rfl⟩))
  go_ret
  exact ⟨rfl, HR.out.drewN k, (HU.out.trans HV.out).drewN k⟩

/-- the same power, from 0 to 8190 -/
def trn (n : Int) : Nat := (n % 8191).toNat
theorem tmod_cases (n m : Int) : (0 ≤ n ∧ n.tmod m = n % m) ∨ (n < 0 ∧ n.tmod m = -((-n) % m)) := by
  by_cases h : 0 ≤ n
  · exact .inl ⟨h, Int.tmod_eq_emod_of_nonneg h⟩
  · refine .inr ⟨by omega, ?_⟩
    have e : n.tmod m = -((-n).tmod m) := by rw [Int.neg_tmod, Int.neg_neg]
    rw [e, Int.tmod_eq_emod_of_nonneg (by omega)]
theorem trn_lt (n : Int) : trn n < 8191 := by unfold trn; omega
set_option maxRecDepth 100000 in
theorem turn_any (n : Int) (w : World) :
    Calls Try.prog 77 #[.int .i64 n] w fun e w' => e = .returned (.int .i64 (trn n : Nat)) ∧ w = w' := by
  by_cases h0 : n.tmod 8191 < 0
  · have hv : n.tmod 8191 + 8191 = ((trn n : Nat) : Int) := by
      unfold trn
      have := tmod_cases n 8191
      omega
    have Hv := Lib.hid hv
    have b1 : -8191 < n.tmod 8191 := by have := tmod_cases n 8191; omega
    clear hv
    go_enter Try.func77, Try.ntmps77
    go_wp2
    go_ret
    exact ⟨congrArg (fun x => Ending.returned (.int .i64 x)) Hv.out, rfl⟩
  · have hv : n.tmod 8191 = ((trn n : Nat) : Int) := by
      unfold trn
      have := tmod_cases n 8191
      omega
    have Hv := Lib.hid hv
    have b1 : n.tmod 8191 < 8191 := by have := tmod_cases n 8191; omega
    clear hv
    go_enter Try.func77, Try.ntmps77
    go_wp2
    go_ret
    exact ⟨congrArg (fun x => Ending.returned (.int .i64 x)) Hv.out, rfl⟩

theorem quiet_eq {P : Program} {f : FuncId} {args : Array Value} {w : World} {n : Nat} {v : Value}
    (h : Calls P f args (w.drewN n) fun e w' => e = .returned v ∧ w.drewN n = w') : Calls P f args (w.drewN n) fun e w'' => e = .returned v ∧ ∃ m, w'' = w.drewN m :=
  h.mono fun _ _ ⟨he, hm⟩ => ⟨he, n, hm.symm⟩

set_option maxRecDepth 100000 in
set_option maxHeartbeats 800000 in
theorem exp_any (b : Spt) (n k : Int) (w : World) (h : Fld w b n) :
    Calls Try.prog 58 #[.pointer (some ⟨b.blk, b.off, none⟩), .int .i64 k] w fun e w' =>
      e = .returned (.int .i64 (pw (trn k) : Nat)) ∧ Ready w' b n ∧ Upd (oneBlock b.blk) w w' := by
  have HF := Lib.hid h
  clear h
  go_enter Try.func58, Try.ntmps58
  go_wp2_with (go_at_call 74; refine (prepare_any b n _ HF.out).mono ?_; rintro e w1 ⟨rfl, HR0, HV0⟩; have HR := Lib.hid HR0; have HV := Lib.hid HV0; clear HR0 HV0)
  obtain ⟨pb, lb, hb, hp, hl⟩ := HR.out
  have c3 : w1.cell? ⟨b.blk, b.off + 3, none⟩ = some (.slice (some ⟨pb, 0, none⟩) 16382 16382) := hb.c3
  have ht := trn_lt k
  have p1 : w1.cell? ⟨pb, trn k, none⟩ = some (.int .i64 ((pw (trn k) : Nat) : Int)) := by
    have := hp.cell (i := trn k) (by omega)
    rw [this]
    unfold powRow
    rw [if_pos ht]
  have s1 : ((trn k : Nat) : Int) < 16382 := by omega
  have s2 : (0 : Int) ≤ ((trn k : Nat) : Int) := by omega
  clear hb hp hl
  go_quiet ((go_at_call 77; exact quiet_eq (turn_any k _)))
  go_wp2
  go_ret
  exact ⟨rfl, HR.out.drewN _, HV.out.drewN _⟩

set_option maxRecDepth 100000 in
set_option maxHeartbeats 800000 in
theorem log_yes (b : Spt) (n a : Int) (w : World) (h : Fld w b n) (ha : low a ≠ 0) :
    Calls Try.prog 61 #[.pointer (some ⟨b.blk, b.off, none⟩), .int .i64 a] w fun e w' =>
      e = .returned (.tuple #[.int .i64 (lg (low a) : Nat), .bool true]) ∧ Ready w' b n ∧ Upd (oneBlock b.blk) w w' := by
  have HF := Lib.hid h
  have m1 : bits .and .i64 a 8191 = ((low a : Nat) : Int) := by rw [i64_8191, low_eq]
  have t1 : (((low a : Nat) : Int) == 0) = false := by simp; omega
  have hlow := low_lt a
  clear h
  go_enter Try.func61, Try.ntmps61
  go_wp2_with (go_at_call 74; refine (prepare_any b n _ HF.out).mono ?_; rintro e w1 ⟨rfl, HR0, HV0⟩; have HR := Lib.hid HR0; have HV := Lib.hid HV0; clear HR0 HV0; obtain ⟨pb, lb, hb, hp, hl⟩ := HR.out; have c4 : w1.cell? ⟨b.blk, b.off + 4, none⟩ = some (.slice (some ⟨lb, 0, none⟩) 8192 8192) := hb.c4; have l1 : w1.cell? ⟨lb, low a, none⟩ = some (.int .i64 ((lg (low a) : Nat) : Int)) := hl.cell (i := low a) hlow; clear hb hp hl)
  go_ret2
  exact ⟨rfl, HR.out, HV.out⟩

set_option maxRecDepth 100000 in
set_option maxHeartbeats 800000 in
theorem log_no (b : Spt) (a : Int) (w : World) (ha : low a = 0) :
    Calls Try.prog 61 #[.pointer (some ⟨b.blk, b.off, none⟩), .int .i64 a] w fun e w' =>
      e = .returned (.tuple #[.int .i64 0, .bool false]) ∧ w = w' := by
  have m1 : bits .and .i64 a 8191 = 0 := by rw [i64_8191, low_eq, ha]; rfl
  clear ha
  go_enter Try.func61, Try.ntmps61
  go_wp2
  go_ret2
  exact ⟨rfl, rfl⟩
end Go.Proofs.Ytpfmdlmnmagkmaa
