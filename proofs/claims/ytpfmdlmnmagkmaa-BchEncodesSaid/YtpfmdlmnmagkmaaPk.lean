/- The law PolyDivides, walked. -/
import Derived.Test.YtpfmdlmnmagkmaaPj
namespace Go.Proofs.Ytpfmdlmnmagkmaa
open Go.RowKit Pm

theorem Ints.next {w w' : World} {n : Nat} {a : Option Addr} {xs : List Int} (h : Ints w w.heap.size a n xs) (hu : Upd noBlock w w') : Ints w' w'.heap.size a n xs :=
  (h.grow hu (Nat.le_refl _)).more hu.size
theorem upd_ends {a b : World} (h : Upd noBlock a b) : Below a.heap.size a b := h.below (fun _ _ h => h)
theorem row_len {w : World} {a : Option Addr} {len cap : Nat} {zs : List Int} (h : IsRow .i64 w a len cap zs) : len ≤ cap := by
  rcases h with ⟨_, h, _, _⟩ | ⟨_, _, h, _⟩
  · omega
  · exact h
attribute [local irreducible] Pm.exps rm pmod pmul

end Go.Proofs.Ytpfmdlmnmagkmaa
