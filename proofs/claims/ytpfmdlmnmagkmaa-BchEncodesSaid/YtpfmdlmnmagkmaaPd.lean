/- Walks over package poly: Of, Add, Mul, Mod. -/
import Derived.Test.YtpfmdlmnmagkmaaPc
namespace Go.Proofs.Ytpfmdlmnmagkmaa
open Go.RowKit Pm

theorem own_more {w : World} {base base' e n : Nat} {v : Value} {xs : List Value} (h : w.ownsRow base' e 1 v n xs) (hb : base ≤ base') : w.ownsRow base e 1 v n xs := by
  refine ⟨h.1, ?_⟩
  rcases h.2 with h | ⟨g, cap, cur, h1, h2, h3⟩
  · exact .inl h
  · exact .inr ⟨g, cap, cur, h1, Nat.le_trans hb h2, h3⟩
/-- a polynomial that a call hands back: new memory, holding the exponents of P -/
def PolyV (w0 w : World) (v : Value) (P : Nat) : Prop := w.ownsRow w0.heap.size 3 1 v (exps P).length (vals (exps P)) ∧ P < 2 ^ top
theorem Coef.row {w : World} {g P Q : Nat} (h : Coef w g P) : Coef (w.setRow g (wordsA Q)) g Q := setRow_heap _ _ _ _ _ _ h
theorem Coef.rowOther {w : World} {g b P : Nat} (h : Coef w b P) (hne : ¬ b = g) (cs : Array Value) : Coef (w.setRow g cs) b P := (setRow_other w g b cs hne).trans h

set_option maxRecDepth 20000 in
set_option maxHeartbeats 800000 in
theorem of_any (a : Option Addr) (len cap B : Nat) (xs : List Int) (w : World) (hr : Ints w B a len xs) (hB : B ≤ w.heap.size) (hm : len ≤ maxLen) :
    Calls Try.prog 44 #[.slice a len cap] w fun e w' => ∃ v, e = .returned v ∧ PolyV w w' v (gat xs) ∧ Upd noBlock w w' := by
  have HR := Lib.hid hr
  clear hr
  go_enter Try.func44, Try.ntmps44
  go_wp2_with fail
  refine (gather_any a len cap B xs _ HR.out hB hm).mono ?_
  rintro e w1 ⟨rfl, HU0⟩
  have HU := Lib.hid HU0
  have HC := Lib.hid (Coef.new w1)
  clear HU0
  go_wp2_with (refine wpList_store_row rfl 111 _ _ rfl w1.heap.size (wordsA (gat xs)) rfl rfl 111 (wordsA 0) HC.out (wordsA_info _) (by rw [wordsA_size, wordsA_size]) (wordsA_one _) ?_)
  have HC2 := Lib.hid (HC.out.row (Q := gat xs))
  have HU2 := Lib.hid ((HU.out.alloc (.cells Try.zeroCells111 111)).setRow (g := w1.heap.size) (.inr HU.out.size) (wordsA (gat xs)))
  refine (poly_any w1.heap.size (gat xs) _ HC2.out (gat_lt xs)).mono ?_
  rintro e w3 ⟨v, rfl, ho, hu⟩
  have HO := Lib.hid (own_more ho HU2.out.size)
  have HU3 := Lib.hid (HU2.out.trans hu)
  clear ho hu
  go_wp2_with fail
  go_ret
  exact ⟨_, rfl, ⟨HO.out, gat_lt xs⟩, HU3.out⟩

end Go.Proofs.Ytpfmdlmnmagkmaa
