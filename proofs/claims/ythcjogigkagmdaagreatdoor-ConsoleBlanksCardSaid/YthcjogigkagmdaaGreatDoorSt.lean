/- Slices of one-cell elements; slices of strings that came in; appending to a row of the call's own. -/
import Derived.Test.YthcjogigkagmdaaGreatDoorLib
import Derived.Maps.AppendAt
import Derived.Deep.AppendLies
import Derived.Deep.Strs
import Derived.RegionTactic
import Derived.OwnWalk
import Derived.Lib.Hide
import Derived.Deep.RegionLaw
import Derived.BigRegion
namespace Go.Proofs.YthcjogigkagmdaaGreatDoor
open Go.RowKit Go.Deep

/-- a slice below block B whose elements, one cell each, are vs -/
def Row1 (w : World) (B : Nat) (a : Option Addr) (n : Nat) (vs : List Value) : Prop :=
  vs.length = n ∧ (0 < n → ∃ g off, a = some ⟨g, off, none⟩ ∧ g < B ∧ ∀ i, i < n → w.cell? ⟨g, off + i, none⟩ = vs[i]?)
theorem Row1.keep {w w' : World} {B n : Nat} {a : Option Addr} {vs : List Value} (h : Row1 w B a n vs) (hk : ∀ g, a.map Addr.block = some g → g < B → w'.heap[g]? = w.heap[g]?) : Row1 w' B a n vs := by
  refine ⟨h.1, fun hn => ?_⟩
  obtain ⟨g, off, rfl, hg, hc⟩ := h.2 hn
  exact ⟨g, off, rfl, hg, fun i hi => (World.cell?_of_block (hk g rfl hg)).trans (hc i hi)⟩
theorem Row1.more {w : World} {B B' n : Nat} {a : Option Addr} {vs : List Value} (h : Row1 w B a n vs) (hB : B ≤ B') : Row1 w B' a n vs := by
  refine ⟨h.1, fun hn => ?_⟩
  obtain ⟨g, off, rfl, hg, hc⟩ := h.2 hn
  exact ⟨g, off, rfl, by omega, hc⟩
theorem Row1.upd {w w' : World} {B n : Nat} {a : Option Addr} {vs : List Value} (h : Row1 w B a n vs) {R : Nat → Prop} (hu : Upd R w w') (hB : B ≤ w.heap.size) (hR : ∀ g, a.map Addr.block = some g → g < B → ¬ R g) : Row1 w' B a n vs :=
  h.keep fun g hg hgB => hu.block g (by omega) (hR g hg hgB)
theorem Row1.grow {w w' : World} {B n : Nat} {a : Option Addr} {vs : List Value} (h : Row1 w B a n vs) (hu : Upd noBlock w w') (hB : B ≤ w.heap.size) : Row1 w' B a n vs := h.upd hu hB fun _ _ _ h => h
theorem Row1.one (w : World) (e : TypeId) (v : Value) : Row1 (w.alloc (.cells #[v] e)) (w.heap.size + 1) (some ⟨w.heap.size, 0, none⟩) 1 [v] :=
  ⟨rfl, fun _ => ⟨w.heap.size, 0, rfl, by omega, fun j hj => by
    obtain rfl : j = 0 := by omega
    rw [cell_of (heap_alloc_new w _)]; rfl⟩⟩
theorem Row1.nil (w : World) (B : Nat) (a : Option Addr) : Row1 w B a 0 [] := ⟨rfl, fun h => absurd h (by omega)⟩
/-- a row of the call's own reads so -/
theorem own_row1 {w : World} {base e n : Nat} {v : Value} {vs : List Value} (h : w.ownsRow base e 1 v n vs) :
    ∃ a c, v = .slice a n c ∧ Row1 w w.heap.size a n vs ∧ n ≤ maxLen ∧ (∀ g, a.map Addr.block = some g → base ≤ g ∧ g < w.heap.size ∧ v.ownBlock = some g ∧ ∃ cs, w.heap[g]? = some (.cells cs e (0, 0))) := by
  obtain ⟨hl, h⟩ := h
  have hlen : vs.length = n := by omega
  rcases h with ⟨rfl, rfl⟩ | ⟨g, cap, cur, rfl, hb, hg, hnc, hcm, hsz, htake⟩
  · exact ⟨none, 0, rfl, ⟨hlen, fun h => absurd h (by omega)⟩, Nat.zero_le _, fun g h => by cases h⟩
  · refine ⟨some ⟨g, 0, none⟩, cap, rfl, ⟨hlen, fun _ => ⟨g, 0, rfl, lt_of_block hg, fun i hi => ?_⟩⟩, by omega, fun g' h => ?_⟩
    · rw [Nat.zero_add, cell_of hg i]
      have : (cur.toList.take (n * 1))[i]? = vs[i]? := by rw [htake]
      rw [List.getElem?_take, if_pos (by omega), Array.getElem?_toList] at this
      exact this
    · have e' : g = g' := by simpa using h
      subst e'
      exact ⟨hb, lt_of_block hg, rfl, cur, hg⟩

/-- a slice of strings -/
structure Strs (w : World) (B : Nat) (a : Option Addr) (n : Nat) (Ss : List ByteArray) : Prop where
  row : Row1 w B a n (Ss.map Value.string)
  fit : ∀ s ∈ Ss, s.size ≤ maxLen
theorem Strs.len {w : World} {B n : Nat} {a : Option Addr} {Ss : List ByteArray} (h : Strs w B a n Ss) : Ss.length = n := by have := h.row.1; simpa using this
theorem Strs.grow {w w' : World} {B n : Nat} {a : Option Addr} {Ss : List ByteArray} (h : Strs w B a n Ss) (hu : Upd noBlock w w') (hB : B ≤ w.heap.size) : Strs w' B a n Ss := ⟨h.row.grow hu hB, h.fit⟩
theorem Strs.upd {w w' : World} {B n : Nat} {a : Option Addr} {Ss : List ByteArray} (h : Strs w B a n Ss) {R : Nat → Prop} (hu : Upd R w w') (hB : B ≤ w.heap.size) (hR : ∀ g, a.map Addr.block = some g → g < B → ¬ R g) : Strs w' B a n Ss := ⟨h.row.upd hu hB hR, h.fit⟩
theorem Strs.more {w : World} {B B' n : Nat} {a : Option Addr} {Ss : List ByteArray} (h : Strs w B a n Ss) (hB : B ≤ B') : Strs w B' a n Ss := ⟨h.row.more hB, h.fit⟩
theorem Strs.cell {w : World} {B n : Nat} {a : Option Addr} {Ss : List ByteArray} (h : Strs w B a n Ss) (h0 : 0 < n) :
    ∃ g off, a = some ⟨g, off, none⟩ ∧ g < B ∧ ∀ i, i < n → w.cell? ⟨g, off + i, none⟩ = some (.string (Ss.getD i ⟨#[]⟩)) := by
  obtain ⟨g, off, ha, hg, hc⟩ := h.row.2 h0
  refine ⟨g, off, ha, hg, fun i hi => ?_⟩
  have hl := h.len
  rw [hc i hi, List.getElem?_map, List.getD_eq_getElem?_getD, List.getElem?_eq_getElem (by omega)]
  rfl
theorem Strs.at {w : World} {B n : Nat} {a : Option Addr} {Ss : List ByteArray} (h : Strs w B a n Ss) {i : Nat} (hi : i < n) : (Ss.getD i ⟨#[]⟩).size ≤ maxLen := by
  have hl := h.len
  apply h.fit
  rw [List.getD_eq_getElem?_getD, List.getElem?_eq_getElem (by omega)]
  exact List.getElem_mem _
theorem Strs.one (w : World) (e : TypeId) (s : ByteArray) (hs : s.size ≤ maxLen) : Strs (w.alloc (.cells #[.string s] e)) (w.heap.size + 1) (some ⟨w.heap.size, 0, none⟩) 1 [s] :=
  ⟨Row1.one w e _, fun x hx => by simp at hx; subst hx; exact hs⟩
/-- one that came in -/
theorem strs_open {H : Type} {enc : TypeId × Value → H} {P : Program} {W : World} {fuel : Nat} {held : Bool} {t e : TypeId} {a : Option Addr} {len cap : Nat} {x : DataW H × List MemPlace}
    (ht : P.underlying t = some (.slice e)) (he : P.underlying e = some .string) (hc1 : P.cellsOf e = 1)
    (h : DataW.trod enc P W 0 (fun _ => true) held fuel t [.slice a len cap] = some x) :
    ∃ Ss, Strs W W.heap.size a len Ss ∧ (len = 0 ∨ ∃ L2, x.1 = .slice (Ss.map fun s => .lit (.string s.data.toList)) L2) := by
  rcases open_strs ht he hc1 h with ⟨hcs, _⟩ | ⟨b, l, c, m, Sx, hcs, _, hlc, hcm, hm, hx, hi⟩
  · simp at hcs
    obtain ⟨rfl, rfl, rfl⟩ := hcs
    exact ⟨[], ⟨Row1.nil _ _ _, fun s hs => by cases hs⟩, .inl rfl⟩
  · simp at hcs
    obtain ⟨rfl, rfl, rfl⟩ := hcs
    simp only [if_true] at hm
    subst hm
    refine ⟨(List.range len).map Sx, ⟨⟨by simp, fun h0 => ?_⟩, fun s hs => ?_⟩, .inr ⟨_, by rw [hx, List.map_map]; rfl⟩⟩
    · have h00 := (hi 0 (by omega)).1
      have hs : b.spot = none := by simpa [Addr.add] using World.cell?_spot h00
      obtain ⟨g, off, spot⟩ := b
      subst hs
      refine ⟨g, off, rfl, World.block_lt_of_cell? W _ h00, fun i hil => ?_⟩
      have := (hi i (by omega)).1
      have hadd : (⟨g, off, none⟩ : Addr).add i = ⟨g, off + i, none⟩ := by
        by_cases e : i = 0
        · subst e; simp [Addr.add]
        · simp [Addr.add, e]
      rw [hadd] at this
      rw [this]
      simp [hil]
    · simp only [List.mem_map, List.mem_range] at hs
      obtain ⟨i, hil, rfl⟩ := hs
      exact (hi i (by omega)).2

section
variable {P : Program} (w : World)
theorem run_append_vals (base : Nat) (t ty e : TypeId) (i : TypeInfo) (z : Value) (by' : Nat) (ht : P.underlying t = some (.slice e)) (hi : P.info? e = some i) (hz : i.zero = some z)
    (hsize : i.size = 1) (hby : i.bytes = by') (hzs : z.cells.size = 1)
    (v : Value) (n : Nat) (ys : List Value) (hown : w.ownsRow base e 1 v n ys)
    (B : Nat) (A : Option Addr) (m c : Nat) (vs : List Value) (hr : Row1 w B A m vs) (h1 : ∀ u ∈ vs, u.oneCell' = true)
    (h63 : n + m ≤ maxLen) (hbytes : (n + m) * by' ≤ 140737488355328) (hbase : base ≤ w.heap.size) :
    ∃ v' w', (Builtin.append_ #[t, t] ty #[v, .slice A m c]).run P w = .ok v' w' ∧ w'.ownsRow base e 1 v' (n + m) (ys ++ vs) ∧ w.grownBy w' v.ownBlock ∧
      (v'.ownBlock = v.ownBlock ∨ v'.ownBlock = some w.heap.size) := by
  rcases A with _ | ⟨g, off, spot⟩
  · have hm : m = 0 := by
      rcases Nat.eq_zero_or_pos m with h0 | h0
      · exact h0
      · obtain ⟨_, _, h, _⟩ := hr.2 h0
        cases h
    subst hm
    have hn : vs = [] := List.eq_nil_of_length_eq_zero hr.1
    subst hn
    refine ⟨v, w, ?_, by simpa using hown, World.grownBy.refl w _, .inl rfl⟩
    rcases hown.2 with ⟨rfl, rfl⟩ | ⟨g, cap, cur, rfl, _, _, hnc, _⟩
    · simp [Builtin.append_, run_underlying ht, sizeOf, typeInfo, hi, Builtin.lenOf, Builtin.firstCells]
    · simp [Builtin.append_, run_underlying ht, sizeOf, typeInfo, hi, Builtin.lenOf, Builtin.firstCells, hnc, storeCells]
  · have hcells : ∀ j u, vs[j]? = some u → w.cell? ((⟨g, off, spot⟩ : Addr).add j) = some u := by
      intro j u hu
      have hj : j < m := by
        have := (List.getElem?_eq_some_iff.1 hu).1
        have := hr.1
        omega
      obtain ⟨g', off', h, _, hc⟩ := hr.2 (by omega)
      simp only [Option.some.injEq, Addr.mk.injEq] at h
      obtain ⟨rfl, rfl, rfl⟩ := h
      have h2 := hc j hj
      rw [hu] at h2
      rw [← h2]
      by_cases e0 : j = 0
      · subst e0; simp [Addr.add]
      · simp [Addr.add, e0]
    obtain ⟨v', w', hrun, h2, h3, _, h5⟩ := run_append_own_at (P := P) w base t ty e i z 1 by' ht hi hz hsize hby hzs (by omega) v n ys hown ⟨g, off, spot⟩ m c vs (by rw [hr.1, Nat.mul_one]) hcells h1 h63 hbytes hbase
    exact ⟨v', w', hrun, h2, h3, h5⟩
theorem wpList_append_vals {ops : Array Oper} {rest : List Oper} {o : Oper} {a : Act} {Q : Exit → Act → World → Prop} (hgd : o.guard = none) (s x : Operand) (t : TypeId)
    (ho : o.op = .call { callee := .builtin .append, args := #[s, x], argTypes := #[t, t] })
    (base : Nat) (e : TypeId) (i : TypeInfo) (z : Value) (by' : Nat) (ht : P.underlying t = some (.slice e)) (hi : P.info? e = some i) (hz : i.zero = some z)
    (hsize : i.size = 1) (hby : i.bytes = by') (hzs : z.cells.size = 1)
    (v : Value) (n : Nat) (ys : List Value) (hs : a.eval s = v) (hown : w.ownsRow base e 1 v n ys)
    (B : Nat) (A : Option Addr) (m c : Nat) (vs : List Value) (hx : a.eval x = .slice A m c) (hr : Row1 w B A m vs) (h1 : ∀ u ∈ vs, u.oneCell' = true)
    (h63 : n + m ≤ maxLen) (hbytes : (n + m) * by' ≤ 140737488355328) (hbase : base ≤ w.heap.size)
    (h : ∀ v' w', w'.ownsRow base e 1 v' (n + m) (ys ++ vs) → w.grownBy w' v.ownBlock → (v'.ownBlock = v.ownBlock ∨ v'.ownBlock = some w.heap.size) → wpList P ops Q rest (a.put o.dst v') w') : wpList P ops Q (o :: rest) a w :=
  wpList_plain hgd fun _ hK => by
    obtain ⟨v', w', hrun, h2, h3, h4⟩ := run_append_vals (P := P) w base t o.type e i z by' ht hi hz hsize hby hzs v n ys hown B A m c vs hr h1 h63 hbytes hbase
    unfold Oper.wp execOp
    simp only [ho, resolve, invoke, builtin, Sem.run_bind, Sem.run_pure, Result.andThen_ok, List.map_toArray, List.map_cons, List.map_nil, hs, hx, hrun]
    exact hK _ _ (h v' w' h2 h3 h4)
/-- the same as a step of a region that draws -/
theorem step_append_vals {ops : Array Oper} {o : Oper} {a : Act} {w : World} {K : Act → World → Prop} {Q : Exit → Act → World → Prop} {E : Prop}
    (hgd : o.guard = none) (s x : Operand) (t : TypeId) (ho : o.op = .call { callee := .builtin .append, args := #[s, x], argTypes := #[t, t] })
    (base : Nat) (e : TypeId) (i : TypeInfo) (z : Value) (by' : Nat) (ht : P.underlying t = some (.slice e)) (hi : P.info? e = some i) (hz : i.zero = some z)
    (hsize : i.size = 1) (hby : i.bytes = by') (hzs : z.cells.size = 1)
    (v : Value) (n : Nat) (ys : List Value) (hs : a.eval s = v) (hown : w.ownsRow base e 1 v n ys)
    (B : Nat) (A : Option Addr) (m c : Nat) (vs : List Value) (hx : a.eval x = .slice A m c) (hr : Row1 w B A m vs) (h1 : ∀ u ∈ vs, u.oneCell' = true)
    (h63 : n + m ≤ maxLen) (hbytes : (n + m) * by' ≤ 140737488355328) (hbase : base ≤ w.heap.size)
    (h : ∀ v' w', w'.ownsRow base e 1 v' (n + m) (ys ++ vs) → w.grownBy w' v.ownBlock → K (a.put o.dst v') w') :
    if Region.wanted o (yielded ops a.tmps) = true then Oper.wp P o a w K Q else E := by
  have hw : Region.wanted o (yielded ops a.tmps) = true := by simp [Region.wanted, hgd]
  rw [if_pos hw]
  obtain ⟨v', w', hrun, h2, h3, h4⟩ := run_append_vals (P := P) w base t o.type e i z by' ht hi hz hsize hby hzs v n ys hown B A m c vs hr h1 h63 hbytes hbase
  unfold Oper.wp execOp
  simp only [ho, resolve, invoke, builtin, Sem.run_bind, Sem.run_pure, Result.andThen_ok, List.map_toArray, List.map_cons, List.map_nil, hs, hx, hrun]
  exact h v' w' h2 h3
theorem run_slice_lo1 (t e : TypeId) (i : TypeInfo) (ht : P.underlying t = some (.slice e)) (hi : P.info? e = some i) (A : Option Addr) (n c k : Nat) (hk : k ≤ n) (hc : n ≤ c) :
    (Instr.sliceAt t (.slice A n c) none (some (.int .i64 k)) none).run P w = .ok (.slice (if c = 0 then A else A.map (·.add 0)) k c) w := by
  have h1 : (k : Int) ≤ (c : Int) := by omega
  simp [Instr.sliceAt, Instr.slice, run_underlying ht, Instr.sliceBounds, run_sliceBound, sizeOf, typeInfo, hi, h1]
theorem run_slice_hi1 (t e : TypeId) (i : TypeInfo) (ht : P.underlying t = some (.slice e)) (hi : P.info? e = some i) (hsize : i.size = 1) (A : Option Addr) (n c k : Nat) (hk : k ≤ n) :
    (Instr.sliceAt t (.slice A n c) (some (.int .i64 k)) none none).run P w = .ok (.slice (if c = k then A else A.map (·.add k)) (n - k) (c - k)) w := by
  have h1 : (k : Int) ≤ (n : Int) := by omega
  simp [Instr.sliceAt, Instr.slice, run_underlying ht, Instr.sliceBounds, run_sliceBound, sizeOf, typeInfo, hi, hsize, h1]
theorem Row1.head {B n k c : Nat} {A : Option Addr} {vs : List Value} (h : Row1 w B A n vs) (hk : k ≤ n) : Row1 w B (if c = 0 then A else A.map (·.add 0)) k (vs.take k) := by
  refine ⟨by rw [List.length_take, h.1]; omega, fun h0 => ?_⟩
  obtain ⟨g, o, rfl, hg, hc⟩ := h.2 (by omega)
  refine ⟨g, o, by split <;> simp [Addr.add], hg, fun i hi => ?_⟩
  rw [hc i (by omega), List.getElem?_take, if_pos hi]
theorem Row1.tail {B n k c : Nat} {A : Option Addr} {vs : List Value} (h : Row1 w B A n vs) (hk : k ≤ n) (hc : n ≤ c) : Row1 w B (if c = k then A else A.map (·.add k)) (n - k) (vs.drop k) := by
  refine ⟨by rw [List.length_drop, h.1], fun h0 => ?_⟩
  obtain ⟨g, o, rfl, hg, hcl⟩ := h.2 (by omega)
  refine ⟨g, o + k, by rw [if_neg (by omega)]; simp [Addr.add], hg, fun i hi => ?_⟩
  rw [Nat.add_assoc, hcl (k + i) (by omega), List.getElem?_drop]
end
theorem strs_one (Ss : List ByteArray) : ∀ u ∈ Ss.map Value.string, u.oneCell' = true := by
  intro u hu
  obtain ⟨_, _, rfl⟩ := List.mem_map.1 hu
  rfl
/-- a slice of strings of the call's own -/
def OwnS (w : World) (B : Nat) (e : TypeId) (v : Value) (Ss : List ByteArray) : Prop := w.ownsRow B e 1 v Ss.length (Ss.map Value.string)
theorem OwnS.upd {w w' : World} {B : Nat} {e : TypeId} {v : Value} {xs : List ByteArray} (h : OwnS w B e v xs) {R : Nat → Prop} (hu : Upd R w w') (hR : ∀ g, v.ownBlock = some g → ¬ R g) : OwnS w' B e v xs := by
  obtain ⟨hl, h⟩ := h
  refine ⟨hl, ?_⟩
  rcases h with ⟨h1, h2⟩ | ⟨g, cap, cur, rfl, hb, hg, r⟩
  · exact .inl ⟨h1, h2⟩
  · exact .inr ⟨g, cap, cur, rfl, hb, (hu.block g (lt_of_block hg) (hR g rfl)).trans hg, r⟩
theorem OwnS.grow {w w' : World} {B : Nat} {e : TypeId} {v : Value} {xs : List ByteArray} (h : OwnS w B e v xs) (hu : Upd noBlock w w') : OwnS w' B e v xs := h.upd hu fun _ _ h => h
theorem OwnS.nil (w : World) (B : Nat) (e : TypeId) : OwnS w B e (.slice none 0 0) [] := World.ownsRow_nil _ _ _ _
theorem OwnS.empty (w : World) (e : TypeId) : OwnS (w.alloc (.cells #[] e)) w.heap.size e (.slice (some ⟨w.heap.size, 0, none⟩) 0 0) [] :=
  ⟨rfl, .inr ⟨w.heap.size, 0, #[], rfl, Nat.le_refl _, heap_alloc_new w _, Nat.le_refl _, Nat.zero_le _, rfl, rfl⟩⟩
theorem OwnS.snoc {w : World} {B : Nat} {e : TypeId} {v : Value} {xs : List ByteArray} {x : ByteArray} (h : w.ownsRow B e 1 v (xs.length + 1) (xs.map Value.string ++ [Value.string x])) : OwnS w B e v (xs ++ [x]) := by
  unfold OwnS
  have e1 : (xs ++ [x]).length = xs.length + 1 := by simp
  have e2 : (xs ++ [x]).map Value.string = xs.map Value.string ++ [Value.string x] := by simp
  rw [e1, e2]; exact h
theorem OwnS.join {w : World} {B : Nat} {e : TypeId} {v : Value} {xs ys : List ByteArray} {m : Nat} (hm : ys.length = m) (h : w.ownsRow B e 1 v (xs.length + m) (xs.map Value.string ++ ys.map Value.string)) : OwnS w B e v (xs ++ ys) := by
  unfold OwnS
  rw [List.length_append, List.map_append, hm]; exact h
theorem OwnS.sl {w : World} {B : Nat} {e : TypeId} {v : Value} {xs : List ByteArray} (h : OwnS w B e v xs) (hf : ∀ s ∈ xs, s.size ≤ maxLen) :
    ∃ a c, v = .slice a xs.length c ∧ Strs w w.heap.size a xs.length xs ∧ ∀ g, a.map Addr.block = some g → B ≤ g ∧ g < w.heap.size := by
  obtain ⟨a, c, hv, hr, _, hg⟩ := own_row1 h
  exact ⟨a, c, hv, ⟨hr, hf⟩, fun g hm => ⟨(hg g hm).1, (hg g hm).2.1⟩⟩
end Go.Proofs.YthcjogigkagmdaaGreatDoor
