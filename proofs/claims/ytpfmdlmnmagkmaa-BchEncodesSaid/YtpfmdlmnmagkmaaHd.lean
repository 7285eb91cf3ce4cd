/- Walks over package gf: Inv, Pow, Eval. -/
import Derived.Test.YtpfmdlmnmagkmaaHc
namespace Go.Proofs.Ytpfmdlmnmagkmaa
open Go.RowKit Gfm

def invN (a : Nat) : Nat := if a = 0 then 0 else pw (8191 - lg a)

set_option maxRecDepth 100000 in
set_option maxHeartbeats 800000 in
theorem inv_yes (b : Spt) (n a : Int) (w : World) (h : Fld w b n) (ha : low a ≠ 0) :
    Calls Try.prog 53 #[.pointer (some ⟨b.blk, b.off, none⟩), .int .i64 a] w fun e w' =>
      e = .returned (.tuple #[.int .i64 (invN (low a) : Nat), .bool true]) ∧ Ready w' b n ∧ Upd (oneBlock b.blk) w w' := by
  have HF := Lib.hid h
  have hlg := lg_lt (low a)
  have Hv : Hid (invN (low a) = pw (8191 - lg (low a))) := by unfold invN; exact if_neg ha
  have HA := Lib.hid ha
  have hnot : ∀ (x : Bool) (w : World), (Op.unary .not (.bool x)).run Try.prog w = .ok (.bool (!x)) w := fun _ _ => rfl
  have s1 : (8191 : Int) - ((lg (low a) : Nat) : Int) = ((8191 - lg (low a) : Nat) : Int) := by omega
  clear h ha
  go_enter Try.func53, Try.ntmps53
  go_wp2_with (go_at_call 61; refine (log_yes b n a _ HF.out HA.out).mono ?_; rintro e w1 ⟨rfl, HR0, HV0⟩; have HR := Lib.hid HR0; have HV := Lib.hid HV0; clear HR0 HV0; obtain ⟨pb, lb, hb, hp, hl⟩ := HR.out; have c3 : w1.cell? ⟨b.blk, b.off + 3, none⟩ = some (.slice (some ⟨pb, 0, none⟩) 16382 16382) := hb.c3; have p1 : w1.cell? ⟨pb, 8191 - lg (low a), none⟩ = some (powRow 8191 (8191 - lg (low a))) := hp.cell (i := 8191 - lg (low a)) (by omega); clear hb hp hl)
  go_ret2
  refine ⟨?_, HR.out, HV.out⟩
  rw [Hv.out]
  unfold powRow
  by_cases g : 8191 - lg (low a) < 8191
  · rw [if_pos g]; rfl
  · rw [if_neg g, if_pos (by omega)]; rfl

set_option maxRecDepth 100000 in
set_option maxHeartbeats 800000 in
theorem inv_no (b : Spt) (a : Int) (w : World) (ha : low a = 0) :
    Calls Try.prog 53 #[.pointer (some ⟨b.blk, b.off, none⟩), .int .i64 a] w fun e w' =>
      e = .returned (.tuple #[.int .i64 0, .bool false]) ∧ w = w' := by
  have HA := Lib.hid ha
  have hnot : ∀ (x : Bool) (w : World), (Op.unary .not (.bool x)).run Try.prog w = .ok (.bool (!x)) w := fun _ _ => rfl
  clear ha
  go_enter Try.func53, Try.ntmps53
  go_wp2_with (go_at_call 61; refine (log_no b a _ HA.out).mono ?_; rintro e w1 ⟨rfl, rfl⟩)
  go_ret2
  exact ⟨rfl, rfl⟩

def powN (a : Nat) (n : Int) : Nat := if n = 0 then 1 else if a = 0 then 0 else pw (trn ((lg a : Int) * (trn n : Nat)))

set_option maxRecDepth 100000 in
set_option maxHeartbeats 800000 in
theorem pow_any (b : Spt) (n a k : Int) (w : World) (h : Fld w b n) :
    Calls Try.prog 70 #[.pointer (some ⟨b.blk, b.off, none⟩), .int .i64 a, .int .i64 k] w fun e w' =>
      e = .returned (.int .i64 (powN (low a) k : Nat)) ∧ Fld w' b n ∧ Upd (oneBlock b.blk) w w' := by
  have hnot : ∀ (x : Bool) (w : World), (Op.unary .not (.bool x)).run Try.prog w = .ok (.bool (!x)) w := fun _ _ => rfl
  by_cases hk : k = 0
  · subst hk
    have hv : powN (low a) 0 = 1 := by unfold powN; rfl
    rw [hv]
    have HF := Lib.hid h
    clear h hv
    go_enter Try.func70, Try.ntmps70
    go_wp2
    go_ret
    exact ⟨rfl, HF.out, Upd.refl _ _⟩
  · have t1 : (k == 0) = false := by simp [hk]
    by_cases ha : low a = 0
    · have hv : powN (low a) k = 0 := by unfold powN; rw [if_neg hk, if_pos ha]
      rw [hv]
      have HF := Lib.hid h
      have HA := Lib.hid ha
      clear h hv ha hk
      go_enter Try.func70, Try.ntmps70
      go_wp2_with (go_at_call 61; refine (log_no b a _ HA.out).mono ?_; rintro e w1 ⟨rfl, rfl⟩)
      go_ret
      exact ⟨rfl, HF.out, Upd.refl _ _⟩
    · have hv : powN (low a) k = pw (trn ((lg (low a) : Int) * (trn k : Nat))) := by unfold powN; rw [if_neg hk, if_neg ha]
      rw [hv]
      have HF := Lib.hid h
      have HA := Lib.hid ha
      have g1 := lg_lt (low a)
      have g2 := trn_lt k
      have g3 : (0 : Int) ≤ (lg (low a) : Int) * (trn k : Nat) := by exact_mod_cast Nat.zero_le _
      have g4 : (lg (low a) : Int) * (trn k : Nat) ≤ 67092481 := by
        have : lg (low a) * trn k ≤ 8191 * 8191 := Nat.mul_le_mul (Nat.le_of_lt g1) (Nat.le_of_lt g2)
        have e : (lg (low a) : Int) * (trn k : Nat) = ((lg (low a) * trn k : Nat) : Int) := by rw [Int.natCast_mul]
        rw [e]; omega
      have s1 : IntKind.i64.wrap ((lg (low a) : Int) * (trn k : Nat)) = (lg (low a) : Int) * (trn k : Nat) := IntWalk.i64_in _ (by omega)
      clear h hv ha hk
      go_enter Try.func70, Try.ntmps70
      go_wp2_with (go_at_call 61; refine (log_yes b n a _ HF.out HA.out).mono ?_; rintro e w1 ⟨rfl, HR0, HV0⟩; have HR := Lib.hid HR0; have HV := Lib.hid HV0; clear HR0 HV0)
      refine (turn_any k _).mono ?_
      rintro e w' ⟨rfl, rfl⟩
      go_wp2_with fail
      refine (exp_any b n _ _ HR.out.fld).mono ?_
      rintro e w2 ⟨rfl, HR2, HV2⟩
      have HR3 := Lib.hid HR2
      have HV3 := Lib.hid HV2
      clear HR2 HV2
      go_wp2
      go_ret
      exact ⟨rfl, HR3.out.fld, HV.out.trans HV3.out⟩
end Go.Proofs.Ytpfmdlmnmagkmaa
