/- A map from int to elements of any type, its elements kept as they stand (tokens). -/
import Derived.Test.YtoledgpcgjdjjaaGreatDoorRows
import Derived.Test.YtoledgpcgjdjjaaGreatDoorQLib
import Derived.Maps.OwnSet
import Derived.Maps.Range
import Derived.WalkKit
namespace Go.Proofs.YtoledgpcgjdjjaaGreatDoor
open Go.RowKit Go.Maps

def opq (v : Value) : Option (DataW Value × List MemPlace) := some (.held v, [])
theorem opq_inv {v : Value} {z : DataW Value × List MemPlace} (h : opq v = some z) : z = (.held v, []) := (Option.some.inj h).symm
theorem keyedI : Keyed Tryz.prog 3 := int_keyed Tryz.underlying3
def Wf (x : Int) : Prop := (Lit.int .i64 x).wf = true
theorem wf_nat {p : Nat} (hp : p ≤ 9223372036854775807) : Wf (p : Int) := by
  show (decide ((-9223372036854775808 : Int) ≤ p) && decide ((p : Int) ≤ 9223372036854775807)) = true
  rw [decide_eq_true (by omega), decide_eq_true (by omega)]; rfl
theorem keyI {x : Int} (h : Wf x) : keyOf Tryz.prog 3 (.int .i64 x) = some (.int .i64 x) := keyOf_int_mk Tryz.underlying3 h
abbrev FnI := Int → Option Value
def putI (f : FnI) (x : Int) (v : Value) : FnI := fun y => if y = x then some v else f y
def delI (f : FnI) (x : Int) : FnI := fun y => if y = x then none else f y
def IM (w : World) (b n : Nat) (f : FnI) : Prop :=
  ∃ D : DataW Value, w.ownsMap Tryz.prog 3 opq b n D ∧ ∀ x, Wf x → Maps.has D (.int .i64 x) = (f x).isSome ∧ ∀ z, D.atKey (.int .i64 x) (.held z) = .held ((f x).getD z)
theorem IM.congr {w w' : World} {b n : Nat} {f : FnI} (h : IM w b n f) (e : w'.heap[b]? = w.heap[b]?) : IM w' b n f := by
  obtain ⟨D, ⟨es, clock, h1, h2⟩, h3⟩ := h
  exact ⟨D, ⟨es, clock, by rw [e]; exact h1, h2⟩, h3⟩
theorem IM.lt {w : World} {b n : Nat} {f : FnI} (h : IM w b n f) : b < w.heap.size := let ⟨_, h, _⟩ := h; h.lt
theorem IM.upd {w w' : World} {b n : Nat} {f : FnI} (h : IM w b n f) {R : Nat → Prop} (hu : Upd R w w') (hR : ¬ R b) : IM w' b n f := h.congr (hu.block b h.lt hR)
theorem IM.same {w : World} {b n : Nat} {f f' : FnI} (h : IM w b n f) (e : ∀ x, Wf x → f x = f' x) : IM w b n f' := by
  obtain ⟨D, h1, h2⟩ := h
  exact ⟨D, h1, fun x hx => by rw [← e x hx]; exact h2 x hx⟩
theorem IM.block {w : World} {b n : Nat} {f : FnI} (h : IM w b n f) : ∃ es clock, w.heap[b]? = some (.map es clock) := by
  obtain ⟨D, ⟨es, clock, h1, h2⟩, h3⟩ := h
  exact ⟨es, clock, h1⟩
theorem IM.made (w : World) : IM (w.alloc (.map #[] 0)) w.heap.size 0 (fun _ => none) :=
  ⟨.map [], World.ownsMap_made _ _ _ _, fun _ _ => ⟨rfl, fun _ => rfl⟩⟩
theorem IM.look {w : World} {b n : Nat} {f : FnI} {t e : TypeId} {z : Value} (h : IM w b n f) (ht : Tryz.prog.underlying t = some (.map 3 e)) (hz : (zeroValue e).run Tryz.prog w = .ok z w) (x : Int) (hx : Wf x) :
    (Instr.lookup t (.map (some b)) (.int .i64 x) true).run Tryz.prog w = .ok (.tuple #[(f x).getD z, .bool (f x).isSome]) w := by
  obtain ⟨D, h1, h2⟩ := h
  obtain ⟨v, ps, h3, h4⟩ := h1.look_ok keyedI ht hz (zd := .held z) (zp := []) rfl (keyI hx)
  obtain ⟨h5, h6⟩ := h2 x hx
  rw [h6] at h4
  have h7 := opq_inv h4
  simp only [Prod.mk.injEq, DataW.held.injEq] at h7
  rw [h3, h5, h7.1]
theorem litI_ne {x y : Int} (h : x ≠ y) : Lit.int .i64 x ≠ Lit.int .i64 y := fun e => h (by injection e)
theorem IM.put {w : World} {b n : Nat} {f : FnI} {t e : TypeId} (h : IM w b n f) (ht : Tryz.prog.underlying t = some (.map 3 e)) (hn : n < maxLen) (x : Int) (hx : Wf x) (v : Value) :
    ∃ w', (Instr.mapUpdate t (.map (some b)) (.int .i64 x) v).run Tryz.prog w = .ok () w' ∧ IM w' b (n + 1) (putI f x v) ∧ w.grownBy w' (some b) := by
  obtain ⟨D, h1, h2⟩ := h
  obtain ⟨w', hrun, ho, hg⟩ := h1.update keyedI ht hn (keyI hx) (val := v) (d := .held v) (ps := []) rfl
  refine ⟨w', hrun, ⟨_, ho, fun y hy => ?_⟩, hg⟩
  by_cases e : y = x
  · subst e
    have e1 : putI f y v y = some v := if_pos rfl
    rw [e1]
    exact ⟨Maps.has_put_same h1.isMap (show WideAt.IsKeyLit (.int .i64 y) from trivial) _, fun z => Maps.atKey_put_same h1.isMap (show WideAt.IsKeyLit (.int .i64 y) from trivial) _ _⟩
  · have e1 : putI f x v y = f y := if_neg e
    rw [e1, Maps.has_put_other (litI_ne e)]
    exact ⟨(h2 y hy).1, fun z => by rw [Maps.atKey_put_other (litI_ne e)]; exact (h2 y hy).2 z⟩
theorem IM.del {w : World} {b n : Nat} {f : FnI} {t e : TypeId} (h : IM w b n f) (ht : Tryz.prog.underlying t = some (.map 3 e)) (x : Int) (hx : Wf x) (ty : TypeId) :
    ∃ w', (Builtin.delete_ #[t, 3] ty #[.map (some b), .int .i64 x]).run Tryz.prog w = .ok (.tuple #[]) w' ∧ IM w' b n (delI f x) ∧ w.grownBy w' (some b) := by
  obtain ⟨D, h1, h2⟩ := h
  obtain ⟨w', hrun, ho, hg⟩ := h1.drop keyedI ht (keyI hx) ty
  refine ⟨w', hrun, ⟨_, ho, fun y hy => ?_⟩, hg.grown⟩
  by_cases e : y = x
  · subst e
    have e1 : delI f y y = none := if_pos rfl
    rw [e1]
    exact ⟨Maps.has_del_same, fun z => Maps.atKey_del_same _⟩
  · have e1 : delI f x y = f y := if_neg e
    rw [e1, Maps.has_del_other (litI_ne e)]
    exact ⟨(h2 y hy).1, fun z => by rw [Maps.atKey_del_other (litI_ne e)]; exact (h2 y hy).2 z⟩
end Go.Proofs.YtoledgpcgjdjjaaGreatDoor
