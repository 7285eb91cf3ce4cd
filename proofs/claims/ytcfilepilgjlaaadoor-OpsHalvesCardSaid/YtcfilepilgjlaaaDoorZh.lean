/- A map from three bytes to a position. -/
import Derived.Test.YtcfilepilgjlaaaDoorZa
import Derived.Maps.OwnSet
import Derived.WideKeyPair
namespace Go.Proofs.YtcfilepilgjlaaaDoor
open Go.RowKit Go.Maps

def kv (a b c : UInt8) : Value := .agg #[.int .u8 (a.toNat : Int), .int .u8 (b.toNat : Int), .int .u8 (c.toNat : Int)]
def kl (a b c : UInt8) : Lit := .string (keyBytes [.int .u8 (a.toNat : Int), .int .u8 (b.toNat : Int), .int .u8 (c.toNat : Int)])
theorem arr3 : Go.WideMaps.ArrKey Tryd.prog 91 5 3 := ⟨Tryd.underlying91, by kernel_rfl, by kernel_rfl, by kernel_rfl⟩
theorem keyed3 : Keyed Tryd.prog 91 := Keyed.of_law arr3.law
theorem types_pos : ∃ m, Tryd.prog.types.size = m + 1 := by
  have h : 0 < Tryd.prog.types.size := of_decide_eq_true (by kernel_rfl)
  exact ⟨Tryd.prog.types.size - 1, by omega⟩
theorem wfb (a : UInt8) : (Lit.int .u8 (a.toNat : Int)).wf = true := by
  have := a.toNat_lt
  show (decide ((0 : Int) ≤ a.toNat) && decide ((a.toNat : Int) ≤ 255)) = true
  rw [decide_eq_true (by omega), decide_eq_true (by omega)]; rfl
theorem keyOf_three (a b c : UInt8) : keyOf Tryd.prog 91 (kv a b c) = some (kl a b c) := by
  have A := arr3
  have he := Tryd.underlying5
  have wa := wfb a
  have wb := wfb b
  have wc := wfb c
  have hkt := A.keyType types_pos
  obtain ⟨m, hm⟩ := types_pos
  unfold keyOf kv
  simp only [A.hu]
  rw [if_pos (by simp [hkt, Value.formed, A.hu, A.size]), hm]
  unfold Program.keyLits
  simp only [A.hu, Value.cells]
  rw [if_pos (by rw [A.size]; rfl), show List.range 3 = [0, 1, 2] from rfl, List.mapM_cons, List.mapM_cons, List.mapM_cons, List.mapM_nil]
  simp [A.one, Program.keyLits, he, wa, wb, wc, kl]
theorem kl_inj {a b c a' b' c' : UInt8} (h : kl a b c = kl a' b' c') : a = a' ∧ b = b' ∧ c = c' := by
  have h1 := keyOf_three a b c
  have h2 := keyOf_three a' b' c'
  rw [← h] at h2
  have h3 := keyed3.inj h1 h2
  simp only [kv, Value.agg.injEq, Array.mk.injEq, List.cons.injEq, Value.int.injEq, true_and, and_true] at h3
  obtain ⟨h4, h5, h6⟩ := h3
  exact ⟨UInt8.toNat_inj.1 (by omega), UInt8.toNat_inj.1 (by omega), UInt8.toNat_inj.1 (by omega)⟩
theorem kl_key (a b c : UInt8) : WideAt.IsKeyLit (kl a b c) := trivial

/-- what stands at three bytes -/
abbrev Fn3 := UInt8 → UInt8 → UInt8 → Option Nat
def put3 (f : Fn3) (x y z : UInt8) (p : Nat) : Fn3 := fun x' y' z' => if x' = x ∧ y' = y ∧ z' = z then some p else f x' y' z'
/-- block b is a map of at most n entries that says f -/
def Mp (w : World) (b n : Nat) (f : Fn3) : Prop :=
  ∃ D : DataW Unit, w.ownsMap Tryd.prog 91 (plainElem Tryd.prog 3) b n D ∧
    ∀ x y z, Maps.has D (kl x y z) = (f x y z).isSome ∧ D.atKey (kl x y z) (.lit (.int .i64 0)) = .lit (.int .i64 (((f x y z).getD 0 : Nat) : Int))
theorem Mp.congr {w w' : World} {b n : Nat} {f : Fn3} (h : Mp w b n f) (e : w'.heap[b]? = w.heap[b]?) : Mp w' b n f := by
  obtain ⟨D, ⟨es, clock, h1, h2⟩, h3⟩ := h
  exact ⟨D, ⟨es, clock, by rw [e]; exact h1, h2⟩, h3⟩
theorem Mp.lt {w : World} {b n : Nat} {f : Fn3} (h : Mp w b n f) : b < w.heap.size := let ⟨_, h, _⟩ := h; h.lt
theorem Mp.upd {w w' : World} {b n : Nat} {f : Fn3} (h : Mp w b n f) {R : Nat → Prop} (hu : Upd R w w') (hR : ¬ R b) : Mp w' b n f := h.congr (hu.block b h.lt hR)
theorem Mp.made (w : World) : Mp (w.alloc (.map #[] 0)) w.heap.size 0 (fun _ _ _ => none) :=
  ⟨.map [], World.ownsMap_made _ _ _ _, fun _ _ _ => ⟨rfl, rfl⟩⟩
theorem zeroInt (w : World) : (zeroValue 3).run Tryd.prog w = .ok (.int .i64 0) w := by kernel_rfl
theorem Mp.look {w : World} {b n : Nat} {f : Fn3} (h : Mp w b n f) (x y z : UInt8) :
    (Instr.lookup 84 (.map (some b)) (kv x y z) true).run Tryd.prog w = .ok (.tuple #[.int .i64 (((f x y z).getD 0 : Nat) : Int), .bool (f x y z).isSome]) w := by
  obtain ⟨D, h1, h2⟩ := h
  obtain ⟨v, ps, h3, h4⟩ := h1.look_ok keyed3 Tryd.underlying84 (zeroInt w) (zd := .lit (.int .i64 0)) (zp := []) (plainElem_int Tryd.underlying3 rfl) (keyOf_three x y z)
  obtain ⟨h5, h6⟩ := h2 x y z
  rw [h6] at h4
  obtain ⟨c, rfl, hc, _⟩ := plainElem_int_inv Tryd.underlying3 h4
  simp only [Prod.mk.injEq, DataW.lit.injEq, Lit.int.injEq, true_and] at hc
  rw [h3, h5, hc.1]
theorem Mp.put {w : World} {b n : Nat} {f : Fn3} (h : Mp w b n f) (hn : n < maxLen) (x y z : UInt8) (p : Nat) (hp : p ≤ 9223372036854775807) :
    ∃ w', (Instr.mapUpdate 84 (.map (some b)) (kv x y z) (.int .i64 (p : Int))).run Tryd.prog w = .ok () w' ∧ Mp w' b (n + 1) (put3 f x y z p) ∧ w.grownBy w' (some b) := by
  obtain ⟨D, h1, h2⟩ := h
  have hwf : (Lit.int .i64 (p : Int)).wf = true := by
    show (decide ((-9223372036854775808 : Int) ≤ p) && decide ((p : Int) ≤ 9223372036854775807)) = true
    rw [decide_eq_true (by omega), decide_eq_true (by omega)]; rfl
  obtain ⟨w', hrun, ho, hg⟩ := h1.update keyed3 Tryd.underlying84 hn (keyOf_three x y z) (plainElem_int Tryd.underlying3 hwf)
  refine ⟨w', hrun, ⟨_, ho, fun x' y' z' => ?_⟩, hg⟩
  by_cases e : x' = x ∧ y' = y ∧ z' = z
  · obtain ⟨rfl, rfl, rfl⟩ := e
    have e1 : put3 f x' y' z' p x' y' z' = some p := if_pos ⟨rfl, rfl, rfl⟩
    rw [e1]
    exact ⟨Maps.has_put_same h1.isMap (kl_key _ _ _) _, Maps.atKey_put_same h1.isMap (kl_key _ _ _) _ _⟩
  · have e1 : put3 f x y z p x' y' z' = f x' y' z' := if_neg e
    have e2 : kl x' y' z' ≠ kl x y z := fun h => e (kl_inj h)
    rw [e1, Maps.has_put_other e2, Maps.atKey_put_other e2]
    exact h2 x' y' z'
end Go.Proofs.YtcfilepilgjlaaaDoor
