/- A slice of bytes of the call's own: out of a text, appended to, back to a text. -/
import Derived.Test.YthcjogigkagmdaaGreatDoorLib
import Derived.Lib.ConvBytes
import Derived.Deep.AppendSrc
import Derived.Laws.IdiomStrings
import Derived.OwnWalk
namespace Go.Proofs.YthcjogigkagmdaaGreatDoor
open Go.RowKit

theorem upd_cell {a b : World} (hu : Upd noBlock a b) {g j : Nat} {v : Value} (h : a.cell? ⟨g, j, none⟩ = some v) : b.cell? ⟨g, j, none⟩ = some v :=
  (World.cell?_of_block (hu.block g (World.block_lt_of_cell? a _ h) (fun h => h))).trans h
theorem upd_bytes (w : World) (e : TypeId) (s : ByteArray) : Upd noBlock w (Lib.bytesWorld w e s) := by
  refine ⟨rfl, rfl, rfl, ?_, fun k hk _ => Lib.bytesWorld_at_old w e s k hk⟩
  rw [Lib.bytesWorld_size]; omega

/-- v is a slice of bytes in a block from B on that reads as l; what lies in its room may be written -/
def Bs (w : World) (B : Nat) (e : TypeId) (v : Value) (l : List UInt8) : Prop :=
  ∃ (g cap : Nat) (cur : Array Value) (z : Nat × Nat), v = .slice (some ⟨g, 0, none⟩) l.length cap ∧ B ≤ g ∧ w.heap[g]? = some (.cells cur e z) ∧ (z = (0, 0) ∨ cap ≤ z.1) ∧ l.length ≤ cap ∧ cap ≤ maxLen ∧ cap ≤ cur.size ∧
    ∀ j (h : j < l.length), cur[j]? = some (.int .u8 (l[j].toNat : Int))
theorem Bs.grow {w w' : World} {B : Nat} {e : TypeId} {v : Value} {l : List UInt8} (h : Bs w B e v l) (hu : Upd noBlock w w') : Bs w' B e v l := by
  obtain ⟨g, cap, cur, z, rfl, hB, hg, r⟩ := h
  exact ⟨g, cap, cur, z, rfl, hB, (hu.block g (lt_of_block hg) (fun h => h)).trans hg, r⟩
theorem Bs.more {w : World} {B B' : Nat} {e : TypeId} {v : Value} {l : List UInt8} (h : Bs w B' e v l) (hb : B ≤ B') : Bs w B e v l := by
  obtain ⟨g, cap, cur, z, rfl, hB, r⟩ := h
  exact ⟨g, cap, cur, z, rfl, Nat.le_trans hb hB, r⟩
theorem Bs.conv (w : World) (e : TypeId) (s : ByteArray) (hs : s.size ≤ maxLen) : Bs (Lib.bytesWorld w e s) w.heap.size e (.slice (some ⟨w.heap.size, 0, none⟩) s.size (grownCap w s.size 0 e)) s.data.toList := by
  have hsz : s.data.toList.length = s.size := rfl
  have hge := grownCap_ge w s.size 0 e
  have hcs : (Lib.bytesCells w e s).size = grownCap w s.size 0 e := by
    simp [Lib.bytesCells]
    have : s.data.size = s.size := rfl
    omega
  refine ⟨w.heap.size, grownCap w s.size 0 e, Lib.bytesCells w e s, _, by rw [hsz], Nat.le_refl _, Lib.bytesWorld_at_new w e s, .inr ?_, by omega, grownCap_le_maxLen w _ 0 e hs, by omega, fun j h => ?_⟩
  · show grownCap w s.size 0 e ≤ (Lib.bytesCells w e s).size
    omega
  · have hj : j < s.size := h
    simp [Lib.bytesCells, Array.getElem?_append, hj]
theorem Bs.cell {w : World} {B : Nat} {e : TypeId} {v : Value} {l : List UInt8} (h : Bs w B e v l) :
    ∃ g cap, v = .slice (some ⟨g, 0, none⟩) l.length cap ∧ B ≤ g ∧ ∀ j (h : j < l.length), w.cell? ⟨g, j, none⟩ = some (.int .u8 (l[j].toNat : Int)) := by
  obtain ⟨g, cap, cur, z, rfl, hB, hg, _, _, _, _, hc⟩ := h
  exact ⟨g, cap, rfl, hB, fun j hj => by rw [cell_of hg]; exact hc j hj⟩
theorem add_zero_addr (g j : Nat) : (⟨g, 0, none⟩ : Addr).add j = ⟨g, j, none⟩ := by
  by_cases h0 : j = 0
  · subst h0; simp [Addr.add]
  · simp [Addr.add, h0]

section
variable {P : Program}
/-- the conversion of a text to bytes, its world under a name -/
theorem conv_row (src dst e : TypeId) (hs : P.underlying src = some .string) (hd : P.underlying dst = some (.slice e)) (he : P.underlying e = some (.int .u8)) (q : ByteArray) (hq : q.size ≤ maxLen) :
    ∃ (CW : World → World) (CC : World → Nat), (∀ w : World, (convert src dst (.string q)).run P w = .ok (.slice (some ⟨w.heap.size, 0, none⟩) q.size (CC w)) (CW w)) ∧
      Hid (∀ w, Upd noBlock w (CW w)) ∧ Hid (∀ w, Bs (CW w) w.heap.size e (.slice (some ⟨w.heap.size, 0, none⟩) q.size (CC w)) q.data.toList) :=
  ⟨fun w => Lib.bytesWorld w e q, fun w => grownCap w q.size 0 e, fun w => Lib.run_convert_string_bytes w src dst e q hs hd he, fun w => upd_bytes w e q, fun w => Bs.conv w e q hq⟩
theorem Bs.text {w : World} {B : Nat} {e : TypeId} {v : Value} {l : List UInt8} (h : Bs w B e v l) (src dst : TypeId) (hs : P.underlying src = some (.slice e)) (he : P.underlying e = some (.int .u8)) (hd : P.underlying dst = some .string) :
    (convert src dst v).run P w = .ok (.string ⟨l.toArray⟩) w := by
  obtain ⟨g, cap, rfl, _, hc⟩ := h.cell
  exact run_convert_bytes_back w src dst e ⟨g, 0, none⟩ cap l hs he hd (fun j hj => by rw [add_zero_addr]; exact hc j hj)

theorem run_append_byte {w : World} {B : Nat} {e : TypeId} {v : Value} {l : List UInt8} (hb : Bs w B e v l) (t ty : TypeId) (i : TypeInfo) (ht : P.underlying t = some (.slice e)) (hi : P.info? e = some i) (hz : i.zero = some (.int .u8 0)) (hsize : i.size = 1) (hby : i.bytes = 1)
    (h : Nat) (x : UInt8) (hx : w.cell? ⟨h, 0, none⟩ = some (.int .u8 (x.toNat : Int))) (hl : l.length + 1 ≤ 140737488355328) (hBw : B ≤ w.heap.size) :
    ∃ v' w', (Builtin.append_ #[t, t] ty #[v, .slice (some ⟨h, 0, none⟩) 1 1]).run P w = .ok v' w' ∧ Bs w' B e v' (l ++ [x]) ∧ ∀ a : World, a.heap.size ≤ B → Upd noBlock a w → Upd noBlock a w' := by
  obtain ⟨g, cap, cur, z, rfl, hB, hg, hf, hlc, hcm, hcs, hc⟩ := hb
  have hsrc : Src P i.size t (.slice (some ⟨h, 0, none⟩) 1 1) 1 [.int .u8 (x.toNat : Int)] w := Src.ofSlice w ht ⟨h, 0, none⟩ 1 1 _ (by rw [hsize]; rfl) (fun j u hu => by
    have hj : j = 0 := by have := (List.getElem?_eq_some_iff.1 hu).1; simpa using this
    subst hj
    rw [add_zero_addr, hx]; exact hu) (fun u hu => by simp at hu; subst hu; rfl)
  by_cases hroom : l.length + 1 ≤ cap
  · have hcell : (w.cell? ⟨g, l.length, none⟩).isSome = true := by
      rw [cell_of hg, Array.getElem?_eq_getElem (by omega)]; rfl
    have hfree : w.frozen? ⟨g, l.length, none⟩ = false := by
      simp only [World.frozen?, hg]
      rcases hf with rfl | hf
      · simp
      · simp; omega
    have hrun := run_append_room_src (P := P) w t t ty e i ht hi g 0 l.length cap _ 1 _ hsrc hroom (fun j hj => by
      have : j = 0 := by simpa using hj
      subst this; rw [hsize]; simpa using hcell) (fun j hj => by
      have : j = 0 := by simpa using hj
      subst this; rw [hsize]; simpa using hfree)
    rw [hsize, Nat.zero_add, Nat.mul_one] at hrun
    refine ⟨_, _, hrun, ?_, fun a ha hu => ?_⟩
    · show Bs (w.setCell ⟨g, l.length, none⟩ (.int .u8 (x.toNat : Int))) B e _ _
      refine ⟨g, cap, _, z, by rw [List.length_append]; rfl, hB, block_set hg _, hf, by rw [List.length_append]; simpa using hroom, hcm, by rw [Array.size_setIfInBounds]; exact hcs, fun j hj => ?_⟩
      rw [List.length_append, List.length_singleton] at hj
      rw [Array.getElem?_setIfInBounds]
      by_cases e1 : l.length = j
      · subst e1
        rw [if_pos rfl, if_pos (by omega)]
        simp
      · rw [if_neg e1, hc j (by omega), List.getElem_append_left (by omega)]
    · exact hu.setCell (.inr (by show a.heap.size ≤ g; omega)) _
  · have hlt : cap < l.length + 1 := by omega
    have hold : (Builtin.firstCells i.size l.length (.slice (some ⟨g, 0, none⟩) l.length cap)).run P w.drew = .ok (l.map fun c => Value.int .u8 (c.toNat : Int)).toArray w.drew :=
      run_firstCells_some w.drew i.size l.length ⟨g, 0, none⟩ l.length cap _ (by rw [List.length_map, hsize, Nat.mul_one]) (fun j u hu => by
        rw [add_zero_addr]
        have hj : j < l.length := by have := (List.getElem?_eq_some_iff.1 hu).1; simpa using this
        rw [List.getElem?_map, List.getElem?_eq_getElem hj] at hu
        show w.cell? _ = _
        rw [cell_of hg, hc j hj]; exact hu)
    have hfit : Builtin.nextslicecap (l.length + 1) cap * i.bytes ≤ 281474976710656 := growslice_fits hlt (by rw [hby]; omega)
    have hrun := run_append_grow_src (P := P) w t t ty e i _ ht hi hz (some ⟨g, 0, none⟩) l.length cap _ hold _ 1 _ hsrc hlt (by omega) hfit
    have hge := grownCap_ge w (l.length + 1) cap e
    have hle := grownCap_le_maxLen w (l.length + 1) cap e (by unfold maxLen; omega)
    generalize grownCap w (l.length + 1) cap e = k at *
    refine ⟨_, _, hrun, ?_, fun a ha hu => (hu.drew).alloc _⟩
    refine ⟨w.heap.size, k, _, (0, 0), by rw [List.length_append]; rfl, hBw, heap_alloc_new w.drew _, .inl rfl, by rw [List.length_append]; simpa using hge, hle, ?_, fun j hj => ?_⟩
    · rw [Array.size_append, size_zeroCells]
      simp [Value.cells]; omega
    · rw [List.length_append, List.length_singleton] at hj
      rw [Array.getElem?_append_left (by simp; omega)]
      by_cases e1 : j = l.length
      · subst e1; simp
      · simp [List.getElem_append_left (show j < l.length by omega), List.getElem?_append, show j < l.length by omega]
theorem wpList_append_byte {w : World} {ops : Array Oper} {rest : List Oper} {o : Oper} {a : Act} {Q : Exit → Act → World → Prop} (hgd : o.guard = none) (s x : Operand) (t : TypeId)
    (ho : o.op = .call { callee := .builtin .append, args := #[s, x], argTypes := #[t, t] })
    (B : Nat) (e : TypeId) (v : Value) (l : List UInt8) (hs : a.eval s = v) (hb : Bs w B e v l) (i : TypeInfo) (ht : P.underlying t = some (.slice e)) (hi : P.info? e = some i) (hz : i.zero = some (.int .u8 0)) (hsize : i.size = 1) (hby : i.bytes = 1)
    (h : Nat) (y : UInt8) (hxe : a.eval x = .slice (some ⟨h, 0, none⟩) 1 1) (hx : w.cell? ⟨h, 0, none⟩ = some (.int .u8 (y.toNat : Int))) (hl : l.length + 1 ≤ 140737488355328) (hBw : B ≤ w.heap.size)
    (hk : ∀ v' w', Bs w' B e v' (l ++ [y]) → (∀ a : World, a.heap.size ≤ B → Upd noBlock a w → Upd noBlock a w') → wpList P ops Q rest (a.put o.dst v') w') : wpList P ops Q (o :: rest) a w :=
  wpList_plain hgd fun _ hK => by
    obtain ⟨v', w', hrun, h2, h3⟩ := run_append_byte (P := P) hb t o.type i ht hi hz hsize hby h y hx hl hBw
    unfold Oper.wp execOp
    simp only [ho, resolve, invoke, builtin, Sem.run_bind, Sem.run_pure, Result.andThen_ok, List.map_toArray, List.map_cons, List.map_nil, hs, hxe, hrun]
    exact hK _ _ (hk v' w' h2 h3)
end
end Go.Proofs.YthcjogigkagmdaaGreatDoor
