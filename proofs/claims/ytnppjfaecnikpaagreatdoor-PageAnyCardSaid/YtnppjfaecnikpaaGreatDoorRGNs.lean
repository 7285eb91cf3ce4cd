import Derived.Test.YtnppjfaecnikpaaGreatDoorRGNi
import Derived.Test.YtnppjfaecnikpaaGreatDoorRGBy
import Derived.RangeFuncBox
import Derived.RangeFuncFrom
import Derived.RangeFuncBound
import Derived.RangeFuncCalls
import Derived.RangeFuncLeaves
import Derived.Shelf.Abstract
import Derived.Shelf.RegionOpen
import Derived.OwnWalkIn
import Derived.TacticsInMore
import Derived.RegionIn
import Derived.LoopNIn
import Derived.LoopIn
/- Noise: the numbers, and the bits of one piece, inside a fence. -/
namespace Go.Proofs.YtnppjfaecnikpaaGreatDoor
open Go.RowKit
attribute [local go_sem] Oper.semAt_some

def drawnN (h b : Nat) : Nat := h / 8589934592 % b
def stepH (h : Nat) : Nat := (h * 6364136223846793005 + 1442695040888963407) % 18446744073709551616
/-- bit b of the bytes from o on is turned -/
def turnBit (f : Nat → Nat) (o b : Nat) : Nat → Nat := fun j => if j = o + b / 8 then f j ^^^ 2 ^ (b % 8) else f j
section
variable (s : Nat → Nat) (d : Nat → Nat) (o : Nat)
/-- k bits of the bytes from o on are turned, from h on -/
def turnsG : Nat → Nat → (Nat → Nat) → Nat → Nat
  | 0, _, f => f
  | k + 1, h, f => turnsG k (s h) (turnBit f o (d (s h)))
end
def turnsN (o len k h : Nat) (f : Nat → Nat) : Nat → Nat := turnsG stepH (fun x => drawnN x (8 * len)) o k h f
def pieceT (most o len h : Nat) (f : Nat → Nat) : Nat → Nat := turnsN o len (drawnN h most + 1) h f
end Go.Proofs.YtnppjfaecnikpaaGreatDoor

/- Noise: the bits of one piece, walked. -/
namespace Go.Proofs.YtnppjfaecnikpaaGreatDoor
open Go.RowKit
attribute [local go_sem] Oper.semAt_some

end Go.Proofs.YtnppjfaecnikpaaGreatDoor

/- slices.Chunk over bytes: what it hands to a loop's body. -/
namespace Go.Proofs.YtnppjfaecnikpaaGreatDoor
open Go.RowKit
attribute [local go_sem] Oper.semAt_some

/-- the k-th piece of pc bytes of L; the first one where there is none -/
def pidx (L pc k : Nat) : Nat := if k * pc < L then k else 0
def KpBox (Bs Bn : Nat) (A B : World) : Prop := B.heap[Bs]? = A.heap[Bs]? ∧ B.heap[Bn]? = A.heap[Bn]?
theorem KpBox.trans {Bs Bn : Nat} {A B C : World} (h : KpBox Bs Bn A B) (k : KpBox Bs Bn B C) : KpBox Bs Bn A C := ⟨k.1.trans h.1, k.2.trans h.2⟩
/-- the number of pieces -/
def pieces (L pc : Nat) : Nat := (L + pc - 1) / pc
end Go.Proofs.YtnppjfaecnikpaaGreatDoor
