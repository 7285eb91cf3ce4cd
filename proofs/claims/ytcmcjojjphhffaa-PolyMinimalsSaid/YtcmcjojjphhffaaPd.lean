/- Walks over package poly: Of, Add, Mul, Mod. -/
import Derived.Test.YtcmcjojjphhffaaPc
namespace Go.Proofs.Ytcmcjojjphhffaa
open Go.RowKit Pm

theorem own_more {w : World} {base base' e n : Nat} {v : Value} {xs : List Value} (h : w.ownsRow base' e 1 v n xs) (hb : base ≤ base') : w.ownsRow base e 1 v n xs := by
  refine ⟨h.1, ?_⟩
  rcases h.2 with h | ⟨g, cap, cur, h1, h2, h3⟩
  · exact .inl h
  · exact .inr ⟨g, cap, cur, h1, Nat.le_trans hb h2, h3⟩
/-- a polynomial that a call hands back: new memory, holding the exponents of P -/
def PolyV (w0 w : World) (v : Value) (P : Nat) : Prop := w.ownsRow w0.heap.size 3 1 v (exps P).length (vals (exps P)) ∧ P < 2 ^ top
theorem Coef.row {w : World} {g P Q : Nat} (h : Coef w g P) : Coef (w.setRow g (wordsA Q)) g Q := setRow_heap _ _ _ _ _ _ h
theorem Coef.rowOther {w : World} {g b P : Nat} (h : Coef w b P) (hne : ¬ b = g) (cs : Array Value) : Coef (w.setRow g cs) b P := (setRow_other w g b cs hne).trans h

set_option maxRecDepth 20000 in
set_option maxHeartbeats 800000 in
theorem of_any (a : Option Addr) (len cap B : Nat) (xs : List Int) (w : World) (hr : Ints w B a len xs) (hB : B ≤ w.heap.size) (hm : len ≤ maxLen) :
    Calls Try.prog 11 #[.slice a len cap] w fun e w' => ∃ v, e = .returned v ∧ PolyV w w' v (gat xs) ∧ Upd noBlock w w' := by
  have HR := Lib.hid hr
  clear hr
  go_enter Try.func11, Try.ntmps11
  go_wp2_with fail
  refine (gather_any a len cap B xs _ HR.out hB hm).mono ?_
  rintro e w1 ⟨rfl, HU0⟩
  have HU := Lib.hid HU0
  have HC := Lib.hid (Coef.new w1)
  clear HU0
  go_wp2_with (refine wpList_store_row rfl 63 _ _ rfl w1.heap.size (wordsA (gat xs)) rfl rfl 63 (wordsA 0) HC.out (wordsA_info _) (by rw [wordsA_size, wordsA_size]) (wordsA_one _) ?_)
  have HC2 := Lib.hid (HC.out.row (Q := gat xs))
  have HU2 := Lib.hid ((HU.out.alloc (.cells Try.zeroCells63 63)).setRow (g := w1.heap.size) (.inr HU.out.size) (wordsA (gat xs)))
  refine (poly_any w1.heap.size (gat xs) _ HC2.out (gat_lt xs)).mono ?_
  rintro e w3 ⟨v, rfl, ho, hu⟩
  have HO := Lib.hid (own_more ho HU2.out.size)
  have HU3 := Lib.hid (HU2.out.trans hu)
  clear ho hu
  go_wp2_with fail
  go_ret
  exact ⟨_, rfl, ⟨HO.out, gat_lt xs⟩, HU3.out⟩

set_option maxRecDepth 20000 in
set_option maxHeartbeats 400000 in
theorem add2_any (a : Option Addr) (len cap B : Nat) (xs : List Int) (a' : Option Addr) (len' cap' B' : Nat) (ys : List Int) (w : World) (hr : Ints w B a len xs) (hB : B ≤ w.heap.size) (hm : len ≤ maxLen)
    (hr' : Ints w B' a' len' ys) (hB' : B' ≤ w.heap.size) (hm' : len' ≤ maxLen) :
    Calls Try.prog 12 #[.slice a len cap, .slice a' len' cap'] w fun e w' => ∃ v, e = .returned v ∧ PolyV w w' v (gat xs ^^^ gat ys) ∧ Upd noBlock w w' := by
  have HR := Lib.hid hr
  have HR' := Lib.hid hr'
  clear hr hr'
  go_enter Try.func12, Try.ntmps12
  go_wp2_with fail
  refine (gather_any a len cap B xs _ HR.out hB hm).mono ?_
  rintro e w1 ⟨rfl, HU0⟩
  have HU := Lib.hid HU0
  clear HU0
  go_wp2_with fail
  refine (gather_any a' len' cap' B' ys _ (HR'.out.grow HU.out hB') (Nat.le_trans hB' HU.out.size) hm').mono ?_
  rintro e w2 ⟨rfl, HU0⟩
  have HU2 := Lib.hid (HU.out.trans HU0)
  clear HU0 HU
  have HC := Lib.hid ((Coef.new w2).alloc (.cells Try.zeroCells63 63))
  have HD0 := Coef.new (w2.alloc (.cells Try.zeroCells63 63))
  rw [World.size_alloc] at HD0
  have HD := Lib.hid HD0
  clear HD0
  have HC2 := Lib.hid (HC.out.row (Q := gat xs))
  have HD2 := Lib.hid (HD.out.rowOther (g := w2.heap.size) (by omega) (wordsA (gat xs)))
  have HC3 := Lib.hid (HC2.out.rowOther (g := w2.heap.size + 1) (by omega) (wordsA (gat ys)))
  have HD3 := Lib.hid (HD2.out.row (Q := gat ys))
  have hsz := HU2.out.size
  have HU3 := Lib.hid ((((HU2.out.alloc (.cells Try.zeroCells63 63)).alloc (.cells Try.zeroCells63 63)).setRow (g := w2.heap.size) (.inr hsz) (wordsA (gat xs))).setRow (g := w2.heap.size + 1) (.inr (by omega)) (wordsA (gat ys)))
  go_wp2_with (first
    | (refine wpList_store_row rfl 63 (.tmp 5) (.tmp 8) rfl w2.heap.size (wordsA (gat xs)) rfl rfl 63 (wordsA 0) HC.out (wordsA_info _) (by rw [wordsA_size, wordsA_size]) (wordsA_one _) ?_)
    | (refine wpList_store_row rfl 63 (.tmp 6) (.tmp 10) rfl (w2.heap.size + 1) (wordsA (gat ys)) rfl rfl 63 (wordsA 0) HD2.out (wordsA_info _) (by rw [wordsA_size, wordsA_size]) (wordsA_one _) ?_))
  refine (add_any w2.heap.size (w2.heap.size + 1) (gat xs) (gat ys) 0 _ HC3.out HD3.out (by omega) (by omega)).mono ?_
  rintro e w3 ⟨rfl, hc, _, hu⟩
  rw [Nat.pow_zero, Nat.mul_one] at hc
  have HC4 := Lib.hid hc
  have HU4 := Lib.hid (HU3.out.step hu (fun i hi e => by have e' : i = w2.heap.size := e; omega))
  clear hc hu
  go_wp2_with fail
  refine (poly_any w2.heap.size _ _ HC4.out (Nat.xor_lt_two_pow (gat_lt xs) (gat_lt ys))).mono ?_
  rintro e w5 ⟨v, rfl, ho, hu⟩
  have HO := Lib.hid (own_more ho HU4.out.size)
  have HU5 := Lib.hid (HU4.out.trans hu)
  clear ho hu
  go_wp2_with fail
  go_ret
  exact ⟨_, rfl, ⟨HO.out, Nat.xor_lt_two_pow (gat_lt xs) (gat_lt ys)⟩, HU5.out⟩
end Go.Proofs.Ytcmcjojjphhffaa
