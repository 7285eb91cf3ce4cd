/- NodeDecodes. -/
import Derived.Test.YthlheamnfjjamaaDoorOw
namespace Go.Proofs.YthlheamnfjjamaaDoor
open Go.RowKit Cm
attribute [local irreducible] beZ valN Cm.shs Cm.nxt Cm.reg Cm.ext
attribute [local go_sem ↓] Go.wp_at_zero Go.wp_at_succ
set_option linter.unusedVariables false

theorem decR_form (r : List UInt8) : ∃ (n : Int) (g b : Bool) (k v : List UInt8), (decR r).1 = nodeV n g b k v := by
  have hz : ∃ (n : Int) (g b : Bool) (k v : List UInt8), zeroV = nodeV n g b k v := ⟨_, _, _, _, _, rfl⟩
  unfold decR
  by_cases h1 : r = [] ∨ r.getD 0 0 = 0
  · rw [if_pos h1]; exact hz
  rw [if_neg h1]
  by_cases h2 : r.getD 0 0 ≠ 78
  · rw [if_pos h2]; exact hz
  rw [if_neg h2]
  by_cases h3 : r.length < 13
  · rw [if_pos h3]; exact hz
  rw [if_neg h3]
  by_cases h4 : r.length < 17 + klenL r + vlenL r
  · rw [if_pos h4]; exact hz
  rw [if_neg h4]
  by_cases h5 : sealed (r.take (13 + klenL r + vlenL r)) ≠ r.take (17 + klenL r + vlenL r)
  · rw [if_pos h5]; exact hz
  rw [if_neg h5]
  cases h6 : parseOk (r.take (13 + klenL r + vlenL r)) with
  | true => rw [if_pos rfl]; exact ⟨_, _, _, _, _, parseV_ok h6⟩
  | false => exact hz
theorem decP_form (l : List UInt8) (a : Int) : ∃ (n : Int) (g b : Bool) (k v : List UInt8), (decP l a).1 = nodeV n g b k v := by
  unfold decP
  by_cases h : a < 0 ∨ (l.length : Int) < a
  · rw [if_pos h]; exact ⟨_, _, _, _, _, rfl⟩
  · rw [if_neg h]; exact decR_form _
theorem two_boxes (W0 W : World) (K : Array Value) (t : TypeId) (h : Upd noBlock (W0.alloc (.cells K t)) W) (O : Obj) :
    (∀ i, (W.alloc O).cell? ⟨W0.heap.size, i, none⟩ = K[i]?) := fun i => cell_of ((h.alloc O).cells (heap_alloc_new W0 _) (fun h => h)) i
set_option maxRecDepth 20000 in
set_option maxHeartbeats 3200000 in
theorem nodeDecodes_upd (q : ByteArray) (a : Int) (w : World) (hq : q.size ≤ 140737488351232) (hT : Tab w) :
    Calls Tryd.prog 4 #[.string q, .int .i64 a] w fun e w' => e = .returned (.bool true) ∧ Upd noBlock w w' := by
  obtain ⟨l, hl⟩ : ∃ l : List UInt8, q = ⟨l.toArray⟩ := ⟨q.data.toList, rfl⟩
  have hll : l.length ≤ 281474976710656 := by rw [hl] at hq; have : l.length ≤ 140737488351232 := hq; omega
  have HD := fun W hW => decode_any l a W hll hW
  have HR := fun W => refDecode_any l a W hll
  obtain ⟨n, g, b, k, v, hf⟩ := decP_form l a
  rw [hf] at HD HR
  rw [← hl] at HD HR
  generalize (decP l a).2.1 = x at *
  generalize (decP l a).2.2 = y at *
  unfold nodeV at HD HR
  generalize (ByteArray.mk k.toArray) = qk at *
  generalize (ByteArray.mk v.toArray) = qv at *
  have HT : Hid (∀ W, Upd noBlock w W → Tab W) := fun W h => hT.upd h
  have HS := Lib.hid (fun W hW => speaks_any W hW)
  replace HD := Lib.hid HD
  replace HR := Lib.hid HR
  clear hl hll hf hq hT
  go_enter Tryd.func4, Tryd.ntmps4
  go_wp2_with (first
    | (go_at_call 11; (with_reducible refine (HS.out _ (HT.out _ (Upd.refl _ _))).mono ?_); rintro e w1 ⟨rfl, h⟩; have HX := Lib.hid h; clear h)
    | (go_at_call 15; (with_reducible refine (HD.out _ (HT.out _ HX.out)).mono ?_); rintro e w2 ⟨rfl, h⟩; have HY := Lib.hid (HX.out.trans h); clear h)
    | (go_at_call 16; (with_reducible refine (HR.out _).mono ?_); rintro e w3 ⟨rfl, h⟩; have f1 := two_boxes _ _ _ _ h; have HZ := Lib.hid ((HY.out.alloc _).trans h); clear h))
  go_ret
  exact ⟨rfl, HZ.out.alloc _⟩
theorem nodeDecodes_walk (q : ByteArray) (a : Int) (w : World) (hq : q.size ≤ 140737488351232) (_ : (Lit.int .i64 a).wf = true) (hT : Tab w) :
    Calls Tryd.prog 4 #[.string q, .int .i64 a] w fun e w' => e = .returned (.bool true) ∧ Below w.heap.size w w' :=
  Calls.mono (nodeDecodes_upd q a w hq hT) fun _ _ (h : _ ∧ Upd noBlock w _) => ⟨h.1, h.2.below (fun _ _ h => h)⟩
end Go.Proofs.YthlheamnfjjamaaDoor
