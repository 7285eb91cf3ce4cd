/- TopTorn: the walk as the law's text wants it; a slice's length is at most its capacity. -/
import Derived.Test.YtjcmfaadoealgaaGreatDoorKGFn
import Derived.WideShapes
import Derived.Below
namespace Go.Proofs.YtjcmfaadoealgaaGreatDoor
open Go.RowKit
set_option linter.unusedVariables false

theorem slice_cap {P : Program} {w : World} {r : Reach} {base : Nat} {t e : TypeId} {a : Option Addr} {len cap : Nat} (ht : P.underlying t = some (.slice e)) (h : Value.okWide P w r base t (.slice a len cap)) : len ≤ cap := by
  simp only [Value.okWide, ht, Cell.okWide] at h
  cases a with
  | none =>
    cases len with
    | zero => exact Nat.zero_le _
    | succ n => simp_all [Cell.ok]
  | some a => simp_all [Cell.ok]
theorem topTorn_walk (n : Int) (a : Option Addr) (L c : Nat) (Ss : List ByteArray) (cn cm : Int) (w : World) (_ : (Lit.int .i64 n).wf = true) (hS : Strs w w.heap.size a L Ss) (hL : L ≤ 8796093021952) (hLc : L ≤ c) (_ : (Lit.int .i64 cn).wf = true) (hcm : (Lit.int .i64 cm).wf = true) (hT : Tab w) :
    Calls Tryz.prog 3 #[.int .i64 n, .slice a L c, .agg #[.int .i64 cn, .int .i64 cm]] w fun e w' => e = .returned (.bool true) ∧ Below w.heap.size w w' := by
  obtain ⟨h1, h2⟩ := (Lit.wf_int_iff .i64 cm).1 hcm
  exact (topTorn_any n a L c Ss cn cm w hS hL hLc ⟨h1, h2⟩ hT).mono fun _ _ ⟨he, hu⟩ => ⟨he, hu.below (fun _ _ h => h)⟩
end Go.Proofs.YtjcmfaadoealgaaGreatDoor
