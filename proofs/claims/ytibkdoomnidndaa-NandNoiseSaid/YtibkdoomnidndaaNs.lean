/- Noise: the numbers, and the bits of one piece, inside a fence. -/
import Derived.Test.YtibkdoomnidndaaNj
import Derived.Test.YtibkdoomnidndaaBr
import Derived.RangeFuncBox
import Derived.RangeFuncFrom
import Derived.RangeFuncBound
import Derived.RangeFuncCalls
import Derived.RangeFuncLeaves
import Derived.Shelf.Abstract
import Derived.Shelf.RegionOpen
import Derived.OwnWalkIn
import Derived.TacticsInMore
import Derived.RegionIn
import Derived.LoopNIn
import Derived.LoopIn
namespace Go.Proofs.Ytibkdoomnidndaa
open Go.RowKit
attribute [local go_sem] Oper.semAt_some

def drawnN (h b : Nat) : Nat := h / 8589934592 % b
def stepH (h : Nat) : Nat := (h * 6364136223846793005 + 1442695040888963407) % 18446744073709551616
set_option maxRecDepth 100000 in
theorem drawn_in (F : Fence) (n : Nat) (hF : F.fn 55) (hro : F.round = none) (h b : Nat) (w : World) (hh : h < 18446744073709551616) (h1 : 1 ≤ b) (hb : b ≤ 16384) :
    CallsIn F n Try.prog 55 #[.int .u64 (h : Int), .int .i64 (b : Int)] w fun e w' => e = .returned (.int .i64 ((drawnN h b : Nat) : Int)) ∧ w = w' := by
  have HH := Lib.hid hh
  clear hh
  refine callsIn_of_wp Try.func55 rfl hF ?_ hro
  simp only [Try.ntmps55, List.size_toArray, List.length_cons, List.length_nil, Nat.reduceAdd, Nat.reduceSub, Array.replicate_succ, Array.replicate_zero, List.push_toArray, List.append_toArray, List.nil_append, List.cons_append]
  gi_wp2
  go_ret
  refine ⟨?_, rfl⟩
  have hlt : drawnN h b < b := by rw [drawnN]; exact Nat.mod_lt _ (by omega)
  have e0 : (h : Int) / 8589934592 = ((h / 8589934592 : Nat) : Int) := by omega
  have e : (h : Int) / 8589934592 % (b : Int) = ((drawnN h b : Nat) : Int) := by rw [e0, ← Int.natCast_emod, drawnN]
  have e2 : wrap64 ((drawnN h b : Nat) : Int) = ((drawnN h b : Nat) : Int) := by unfold wrap64; omega
  show Ending.returned (.int .i64 (wrap64 ((h : Int) / 8589934592 % (b : Int)))) = _
  rw [e, e2]

/-- bit b of the bytes from o on is turned -/
def turnBit (f : Nat → Nat) (o b : Nat) : Nat → Nat := fun j => if j = o + b / 8 then f j ^^^ 2 ^ (b % 8) else f j
section
variable (s : Nat → Nat) (d : Nat → Nat) (o : Nat)
/-- k bits of the bytes from o on are turned, from h on -/
def turnsG : Nat → Nat → (Nat → Nat) → Nat → Nat
  | 0, _, f => f
  | k + 1, h, f => turnsG k (s h) (turnBit f o (d (s h)))
def stepsG : Nat → Nat → Nat
  | 0, h => h
  | k + 1, h => stepsG k (s h)
theorem stepsG_succ : ∀ (k h : Nat), stepsG s (k + 1) h = s (stepsG s k h)
  | 0, _ => rfl
  | k + 1, h => stepsG_succ k (s h)
theorem turnsG_succ : ∀ (k h : Nat) (f : Nat → Nat), turnsG s d o (k + 1) h f = turnBit (turnsG s d o k h f) o (d (stepsG s (k + 1) h))
  | 0, _, _ => rfl
  | k + 1, h, f => turnsG_succ k (s h) (turnBit f o (d (s h)))
end
def stepsH (k h : Nat) : Nat := stepsG stepH k h
def turns (o len k h : Nat) (f : Nat → Nat) : Nat → Nat := turnsG stepH (fun x => drawnN x (8 * len)) o k h f
theorem stepsH_succ (k h : Nat) : stepsH (k + 1) h = stepH (stepsH k h) := stepsG_succ stepH k h
theorem turns_succ (o len k h : Nat) (f : Nat → Nat) : turns o len (k + 1) h f = turnBit (turns o len k h f) o (drawnN (stepsH (k + 1) h) (8 * len)) := turnsG_succ stepH (fun x => drawnN x (8 * len)) o k h f
def pieceT (most o len h : Nat) (f : Nat → Nat) : Nat → Nat := turns o len (drawnN h most + 1) h f
theorem stepH_lt (h : Nat) : stepH h < 18446744073709551616 := by rw [stepH]; exact Nat.mod_lt _ (by omega)
theorem stepsH_lt (k h : Nat) (hh : h < 18446744073709551616) : stepsH k h < 18446744073709551616 := by
  cases k with
  | zero => exact hh
  | succ k => rw [stepsH_succ]; exact stepH_lt _
theorem turnBit_lt {f : Nat → Nat} (hf : ∀ j, f j < 256) (o b : Nat) : ∀ j, turnBit f o b j < 256 := by
  intro j
  unfold turnBit
  split
  · exact Nat.xor_lt_two_pow (n := 8) (hf j) (Nat.pow_lt_pow_right (by omega) (by omega))
  · exact hf j
theorem turns_lt (o len k h : Nat) (f : Nat → Nat) (hf : ∀ j, f j < 256) : ∀ j, turns o len k h f j < 256 := by
  induction k with
  | zero => exact hf
  | succ k ih => rw [turns_succ]; exact turnBit_lt ih _ _
theorem pow_shift (s : Nat) (hs : s < 8) : (2 ^ s : Nat) < 256 := Nat.pow_lt_pow_right (m := s) (n := 8) (by omega) hs
end Go.Proofs.Ytibkdoomnidndaa
