/- Walks over package gf where the tables are there: nothing that lay there is written. -/
import Derived.Test.YtpfmdlmnmagkmaaHe
namespace Go.Proofs.Ytpfmdlmnmagkmaa
open Go.RowKit Gfm

theorem Ready.upd {w w' : World} {b : Spt} {n : Int} (h : Ready w b n) (hu : Upd noBlock w w') : Ready w' b n := h.keep hu
set_option maxRecDepth 100000 in
set_option maxHeartbeats 800000 in
theorem prepare_ready (b : Spt) (n : Int) (w : World) (h : Ready w b n) :
    Calls Try.prog 74 #[.pointer (some ⟨b.blk, b.off, none⟩)] w fun e w' => e = .returned (.tuple #[]) ∧ Ready w' b n ∧ Upd noBlock w w' := by
  have hbs := h.fld.lt
  have hmf : ∀ (fn : Fn) (first cap : Array Value) (w : World), (Instr.makeFunc fn first cap).run Try.prog w = .ok (.func fn first cap) w := fun _ _ _ _ => rfl
  have hne : ¬ w.heap.size = b.blk := by omega
  obtain ⟨pb, lb, hb, hp, hl⟩ := h
  have HB := Lib.hid (FB.alloc hb (.cells #[.pointer (some ⟨b.blk, b.off, none⟩)] 84))
  have HR : Hid (Ready (w.alloc (.cells #[.pointer (some ⟨b.blk, b.off, none⟩)] 84)) b n) := Ready.keep ⟨pb, lb, hb, hp, hl⟩ ((Upd.refl noBlock w).alloc _)
  clear hb hp hl
  go_enter Try.func74, Try.ntmps74
  go_wp2_with (go_at_call 30; refine (do_done ⟨b.blk, b.off, none⟩ _ _ HB.out.c0).mono ?_; rintro e w' ⟨rfl, rfl⟩)
  go_end0
  exact ⟨rfl, HR.out, (Upd.refl noBlock w).alloc _⟩

set_option maxRecDepth 100000 in
set_option maxHeartbeats 800000 in
theorem exp_ready (b : Spt) (n k : Int) (w : World) (h : Ready w b n) :
    Calls Try.prog 58 #[.pointer (some ⟨b.blk, b.off, none⟩), .int .i64 k] w fun e w' =>
      e = .returned (.int .i64 (pw (trn k) : Nat)) ∧ Ready w' b n ∧ Upd noBlock w w' := by
  have HF := Lib.hid h
  clear h
  go_enter Try.func58, Try.ntmps58
  go_wp2_with (go_at_call 74; refine (prepare_ready b n _ HF.out).mono ?_; rintro e w1 ⟨rfl, HR0, HV0⟩; have HR := Lib.hid HR0; have HV := Lib.hid HV0; clear HR0 HV0)
  obtain ⟨pb, lb, hb, hp, hl⟩ := HR.out
  have c3 : w1.cell? ⟨b.blk, b.off + 3, none⟩ = some (.slice (some ⟨pb, 0, none⟩) 16382 16382) := hb.c3
  have ht := trn_lt k
  have p1 : w1.cell? ⟨pb, trn k, none⟩ = some (.int .i64 ((pw (trn k) : Nat) : Int)) := by
    have := hp.cell (i := trn k) (by omega)
    rw [this]
    unfold powRow
    rw [if_pos ht]
  have s1 : ((trn k : Nat) : Int) < 16382 := by omega
  have s2 : (0 : Int) ≤ ((trn k : Nat) : Int) := by omega
  clear hb hp hl
  go_quiet ((go_at_call 77; exact quiet_eq (turn_any k _)))
  go_wp2
  go_ret
  exact ⟨rfl, HR.out.drewN _, HV.out.drewN _⟩

set_option maxRecDepth 100000 in
set_option maxHeartbeats 800000 in
theorem log_ready (b : Spt) (n a : Int) (w : World) (h : Ready w b n) (ha : low a ≠ 0) :
    Calls Try.prog 61 #[.pointer (some ⟨b.blk, b.off, none⟩), .int .i64 a] w fun e w' =>
      e = .returned (.tuple #[.int .i64 (lg (low a) : Nat), .bool true]) ∧ Ready w' b n ∧ Upd noBlock w w' := by
  have HF := Lib.hid h
  have m1 : bits .and .i64 a 8191 = ((low a : Nat) : Int) := by rw [i64_8191, low_eq]
  have t1 : (((low a : Nat) : Int) == 0) = false := by simp; omega
  have hlow := low_lt a
  clear h
  go_enter Try.func61, Try.ntmps61
  go_wp2_with (go_at_call 74; refine (prepare_ready b n _ HF.out).mono ?_; rintro e w1 ⟨rfl, HR0, HV0⟩; have HR := Lib.hid HR0; have HV := Lib.hid HV0; clear HR0 HV0; obtain ⟨pb, lb, hb, hp, hl⟩ := HR.out; have c4 : w1.cell? ⟨b.blk, b.off + 4, none⟩ = some (.slice (some ⟨lb, 0, none⟩) 8192 8192) := hb.c4; have l1 : w1.cell? ⟨lb, low a, none⟩ = some (.int .i64 ((lg (low a) : Nat) : Int)) := hl.cell (i := low a) hlow; clear hb hp hl)
  go_ret2
  exact ⟨rfl, HR.out, HV.out⟩

set_option maxRecDepth 100000 in
set_option maxHeartbeats 800000 in
theorem pow_ready (b : Spt) (n a k : Int) (w : World) (h : Ready w b n) :
    Calls Try.prog 70 #[.pointer (some ⟨b.blk, b.off, none⟩), .int .i64 a, .int .i64 k] w fun e w' =>
      e = .returned (.int .i64 (powN (low a) k : Nat)) ∧ Ready w' b n ∧ Upd noBlock w w' := by
  have hnot : ∀ (x : Bool) (w : World), (Op.unary .not (.bool x)).run Try.prog w = .ok (.bool (!x)) w := fun _ _ => rfl
  by_cases hk : k = 0
  · subst hk
    have hv : powN (low a) 0 = 1 := by unfold powN; rfl
    rw [hv]
    have HF := Lib.hid h
    clear h hv
    go_enter Try.func70, Try.ntmps70
    go_wp2
    go_ret
    exact ⟨rfl, HF.out, Upd.refl _ _⟩
  · have t1 : (k == 0) = false := by simp [hk]
    by_cases ha : low a = 0
    · have hv : powN (low a) k = 0 := by unfold powN; rw [if_neg hk, if_pos ha]
      rw [hv]
      have HF := Lib.hid h
      have HA := Lib.hid ha
      clear h hv ha hk
      go_enter Try.func70, Try.ntmps70
      go_wp2_with (go_at_call 61; refine (log_no b a _ HA.out).mono ?_; rintro e w1 ⟨rfl, rfl⟩)
      go_ret
      exact ⟨rfl, HF.out, Upd.refl _ _⟩
    · have hv : powN (low a) k = pw (trn ((lg (low a) : Int) * (trn k : Nat))) := by unfold powN; rw [if_neg hk, if_neg ha]
      rw [hv]
      have HF := Lib.hid h
      have HA := Lib.hid ha
      have g1 := lg_lt (low a)
      have g2 := trn_lt k
      have g3 : (0 : Int) ≤ (lg (low a) : Int) * (trn k : Nat) := by exact_mod_cast Nat.zero_le _
      have g4 : (lg (low a) : Int) * (trn k : Nat) ≤ 67092481 := by
        have : lg (low a) * trn k ≤ 8191 * 8191 := Nat.mul_le_mul (Nat.le_of_lt g1) (Nat.le_of_lt g2)
        have e : (lg (low a) : Int) * (trn k : Nat) = ((lg (low a) * trn k : Nat) : Int) := by rw [Int.natCast_mul]
        rw [e]; omega
      have s1 : IntKind.i64.wrap ((lg (low a) : Int) * (trn k : Nat)) = (lg (low a) : Int) * (trn k : Nat) := IntWalk.i64_in _ (by omega)
      clear h hv ha hk
      go_enter Try.func70, Try.ntmps70
      go_wp2_with (go_at_call 61; refine (log_ready b n a _ HF.out HA.out).mono ?_; rintro e w1 ⟨rfl, HR0, HV0⟩; have HR := Lib.hid HR0; have HV := Lib.hid HV0; clear HR0 HV0)
      refine (turn_any k _).mono ?_
      rintro e w' ⟨rfl, rfl⟩
      go_wp2_with fail
      refine (exp_ready b n _ _ HR.out).mono ?_
      rintro e w2 ⟨rfl, HR2, HV2⟩
      have HR3 := Lib.hid HR2
      have HV3 := Lib.hid HV2
      clear HR2 HV2
      go_wp2
      go_ret
      exact ⟨rfl, HR3.out, HV.out.trans HV3.out⟩

set_option maxRecDepth 100000 in
set_option maxHeartbeats 1600000 in
theorem eval_ready (b : Spt) (n x : Int) (a : Option Addr) (len cap B : Nat) (xs : List Int) (w : World) (h : Ready w b n) (hr : Ints w B a len xs) (hB : B ≤ w.heap.size) (hm : len ≤ maxLen) :
    Calls Try.prog 83 #[.pointer (some ⟨b.blk, b.off, none⟩), .slice a len cap, .int .i64 x] w fun e w' =>
      e = .returned (.int .i64 (hor (low x) xs : Nat)) ∧ Ready w' b n ∧ Upd noBlock w w' := by
  have HF := Lib.hid h
  have m1 : bits .and .i64 x 8191 = ((low x : Nat) : Int) := by rw [i64_8191, low_eq]
  have hcap : len ≤ 9223372036854775807 := by unfold maxLen at hm; omega
  have hlen := hr.1
  have Hlen := Lib.hid hlen
  clear hm hlen
  clear h
  go_enter Try.func83, Try.ntmps83
  go_wp2_with (go_at_call 74; refine (prepare_ready b n _ HF.out).mono ?_; rintro e w1 ⟨rfl, HR0, HV0⟩; have HR := Lib.hid HR0; have HV := Lib.hid HV0; clear HR0 HV0)
  go_loopw [7, 8] (fun v i wr => ∃ k : Nat, k ≤ len ∧ i = .int .i64 ((k : Int) - 1) ∧ v = .int .i64 ((hor (low x) (xs.drop k) : Nat) : Int) ∧ Hid (Ready wr b n) ∧ Hid (Upd noBlock w wr)) (fun _ i _ => (intOf i + 1).toNat)
  case atStart => 
    refine ⟨len, Nat.le_refl _, rfl, ?_, HR, HV⟩
    rw [List.drop_of_length_le (by have := Hlen.out; omega)]; rfl
  case round =>
    clear HR HV
    obtain ⟨k, hk, rfl, rfl, HR, HV⟩ := hrel
    by_cases h0 : 0 < k
    · obtain ⟨i, rfl⟩ : ∃ i, k = i + 1 := ⟨k - 1, by omega⟩
      obtain ⟨g, off, rfl, hg, hcell⟩ := hr.cell (by omega)
      have hs := hor_step (low x) xs i (by have := Hlen.out; omega)
      have c1 : wr.cell? ⟨g, off + i, none⟩ = some (.int .i64 (xs.getD i 0)) := (World.cell?_of_block (HV.out.block g (by omega) (fun h => h))).trans (hcell i (by omega))
      have m2 : bits .and .i64 (xs.getD i 0) 8191 = ((low (xs.getD i 0) : Nat) : Int) := by rw [i64_8191, low_eq]
      have hh := hor_lt (low x) (xs.drop (i + 1))
      have hx := low_lt x
      have m3 : bits .xor .i64 ((mul (hor (low x) (xs.drop (i + 1))) (low x) : Nat) : Int) ((low (xs.getD i 0) : Nat) : Int) = ((hor (low x) (xs.drop i) : Nat) : Int) := by
        rw [i64_xor_nat _ _ (by have := mul_lt _ (low x) hh; omega) (by have := low_lt (xs.getD i 0); omega), hs]
      have e1 : ((i + 1 : Nat) : Int) - 1 = (i : Int) := by omega
      rw [e1]
      clear hcell hs hr
      generalize xs.getD i 0 = z at c1 m2 m3
      go_wp2
      go_quiet ((go_at_call 75; exact Calls.quiet_of (product_any b _ _ n _ (HR.out.drewN _) hh hx)))
      go_wp2
      go_roundw
      case rel => exact ⟨i, by omega, rfl, rfl, HR.out.drewN _, HV.out.drewN _⟩
      case measure => simp [intOf]
    · obtain rfl : k = 0 := by omega
      have e1 : ((0 : Nat) : Int) - 1 = -1 := by omega
      rw [e1]
      go_wp2
      go_ret
      exact ⟨rfl, HR.out, HV.out⟩

end Go.Proofs.Ytpfmdlmnmagkmaa
