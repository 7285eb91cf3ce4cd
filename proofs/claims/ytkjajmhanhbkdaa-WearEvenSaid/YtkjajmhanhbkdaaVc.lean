/- WearEven: who uses the least erased free block and gives back the oldest, plain; the queue in memory. -/
import Derived.Test.YtkjajmhanhbkdaaVb
import Derived.Deep.AppendSrc
namespace Go.Proofs.Ytkjajmhanhbkdaa
open Go.RowKit

theorem pigeon : ∀ (n : Nat) (O : List Nat), (∀ j, j < n → j ∈ O) → n ≤ O.length := by
  intro n
  induction n with
  | zero => intro _ _; exact Nat.zero_le _
  | succ n ih =>
    intro O h
    have hn := h n (by omega)
    have h1 := ih (O.erase n) (fun j hj => (List.mem_erase_of_ne (by omega)).2 (h j (by omega)))
    rw [List.length_erase_of_mem hn] at h1
    have := List.length_pos_of_mem hn
    omega
/-- the blocks behind so many steps -/
structure Ev (n used i : Nat) (E : Nat → Nat) (U : Nat → Bool) (O : List Nat) : Prop where
  bnd : ∃ m, ∀ j, j < n → m ≤ E j ∧ E j ≤ m + 1
  fu : ∀ j, j < n → U j = false → ∀ b ∈ O, E j ≤ E b
  mem : ∀ j, j < n → (U j = true ↔ j ∈ O)
  lt : ∀ b ∈ O, b < n
  srt : O.Pairwise (fun a b => E a ≤ E b)
  nd : O.Nodup
  len : O.length ≤ used
  max : ∀ j, E j ≤ i
theorem Ev.start (n used : Nat) : Ev n used 0 (fun _ => 0) (fun _ => false) [] :=
  ⟨⟨0, fun _ _ => ⟨Nat.le_refl _, Nat.zero_le _⟩⟩, fun _ _ _ b hb => (by cases hb), fun _ _ => ⟨fun h => (by cases h), fun h => (by cases h)⟩, fun b hb => (by cases hb), List.Pairwise.nil, List.nodup_nil, Nat.zero_le _, fun _ => Nat.le_refl _⟩
theorem Ev.free {n used i : Nat} {E : Nat → Nat} {U : Nat → Bool} {O : List Nat} (h : Ev n used i E U O) (hu : used < n) : ∃ j, j < n ∧ U j = false := by
  refine Classical.byContradiction fun hno => ?_
  have : ∀ j, j < n → j ∈ O := fun j hj => (h.mem j hj).1 (by
    cases e : U j
    · exact absurd ⟨j, hj, e⟩ hno
    · rfl)
  have := pigeon n O this
  have := h.len
  omega
def upE (E : Nat → Nat) (k : Nat) : Nat → Nat := fun j => if j = k then E k + 1 else E j
def upU (U : Nat → Bool) (k : Nat) (b : Bool) : Nat → Bool := fun j => if j = k then b else U j
/-- what the picked block does -/
structure Mid (n i : Nat) (E : Nat → Nat) (U : Nat → Bool) (O : List Nat) : Prop where
  bnd : ∃ m, ∀ j, j < n → m ≤ E j ∧ E j ≤ m + 1
  fu : ∀ j, j < n → U j = false → ∀ b ∈ O, E j ≤ E b
  mem : ∀ j, j < n → (U j = true ↔ j ∈ O)
  lt : ∀ b ∈ O, b < n
  srt : O.Pairwise (fun a b => E a ≤ E b)
  nd : O.Nodup
  max : ∀ j, E j ≤ i
theorem Ev.mid {n used i : Nat} {E : Nat → Nat} {U : Nat → Bool} {O : List Nat} (h : Ev n used i E U O) (k : Nat) (hk : k < n) (hf : U k = false) (hl : ∀ j, j < n → U j = false → E k ≤ E j) :
    Mid n (i + 1) (upE E k) (upU U k true) (O ++ [k]) := by
  have hno : k ∉ O := fun hm => by
    have := (h.mem k hk).2 hm
    rw [hf] at this; cases this
  have hmin : ∀ j, j < n → E k ≤ E j := fun j hj => by
    cases e : U j
    · exact hl j hj e
    · exact h.fu k hk hf j ((h.mem j hj).1 e)
  have hmax : ∀ j, j < n → E j ≤ E k + 1 := fun j hj => by
    obtain ⟨m, hm⟩ := h.bnd
    have h1 := hm j hj
    have h2 := hm k hk
    omega
  have hE : ∀ b, b ≠ k → upE E k b = E b := fun b hb => if_neg hb
  have hEk : upE E k k = E k + 1 := if_pos rfl
  have hOk : ∀ b ∈ O, b ≠ k := fun b hb e => hno (e ▸ hb)
  refine ⟨⟨E k, fun j hj => ?_⟩, fun j hj hu b hb => ?_, fun j hj => ?_, fun b hb => ?_, ?_, ?_, fun j => ?_⟩
  · by_cases e : j = k
    · subst e; rw [hEk]; omega
    · rw [hE j e]; exact ⟨hmin j hj, hmax j hj⟩
  · have hjk : j ≠ k := fun e => by subst e; simp [upU] at hu
    have hu' : U j = false := by rw [← hu]; exact (if_neg hjk).symm
    rw [hE j hjk]
    rcases List.mem_append.1 hb with hb | hb
    · rw [hE b (hOk b hb)]; exact h.fu j hj hu' b hb
    · rw [List.mem_singleton.1 hb, hEk]; exact hmax j hj
  · by_cases e : j = k
    · subst e; simp [upU]
    · rw [show upU U k true j = U j from if_neg e, h.mem j hj]
      simp [e]
  · rcases List.mem_append.1 hb with hb | hb
    · exact h.lt b hb
    · rw [List.mem_singleton.1 hb]; exact hk
  · rw [List.pairwise_append]
    refine ⟨h.srt.imp_of_mem fun {a b} ha hb hab => ?_, List.pairwise_singleton _ _, fun a ha b hb => ?_⟩
    · rw [hE a (hOk a ha), hE b (hOk b hb)]; exact hab
    · rw [List.mem_singleton.1 hb, hEk, hE a (hOk a ha)]; exact hmax a (h.lt a ha)
  · rw [List.nodup_append]
    refine ⟨h.nd, by simp, fun a ha b hb => ?_⟩
    rw [List.mem_singleton.1 hb]; exact hOk a ha
  · by_cases e : j = k
    · subst e; rw [hEk]; have := h.max j; omega
    · rw [hE j e]; have := h.max j; omega
theorem Mid.keep {n used i : Nat} {E : Nat → Nat} {U : Nat → Bool} {O : List Nat} (h : Mid n i E U O) (hl : O.length ≤ used) : Ev n used i E U O := ⟨h.bnd, h.fu, h.mem, h.lt, h.srt, h.nd, hl, h.max⟩
theorem Mid.give {n used i r : Nat} {E : Nat → Nat} {U : Nat → Bool} {O : List Nat} (h : Mid n i E U (r :: O)) (hl : O.length ≤ used) : Ev n used i E (upU U r false) O := by
  have hs := List.pairwise_cons.1 h.srt
  have hd := List.nodup_cons.1 h.nd
  refine ⟨h.bnd, fun j hj hu b hb => ?_, fun j hj => ?_, fun b hb => h.lt b (List.mem_cons_of_mem _ hb), hs.2, hd.2, hl, h.max⟩
  · by_cases e : j = r
    · subst e; exact hs.1 b hb
    · exact h.fu j hj (by rw [← hu]; exact (if_neg e).symm) b (List.mem_cons_of_mem _ hb)
  · by_cases e : j = r
    · subst e
      simp only [upU, if_pos]
      exact ⟨fun h => (by cases h), fun hm => absurd hm hd.1⟩
    · rw [show upU U r false j = U j from if_neg e, h.mem j hj]
      simp [e]
def evF (E : Nat → Nat) (U : Nat → Bool) (j : Nat) : Bk := ⟨(E j : Int), 0, U j, false⟩

/-! the queue: a slice of int of the call's own that begins wherever in its block -/
def Tl (w : World) (B : Nat) (v : Value) (xs : List Int) : Prop :=
  (v = .slice none 0 0 ∧ xs = []) ∨ ∃ g off cap cs, v = .slice (some ⟨g, off, none⟩) xs.length cap ∧ B ≤ g ∧ w.heap[g]? = some (.cells cs 3 (0, 0)) ∧ xs.length ≤ cap ∧ cap ≤ maxLen ∧ off + cap ≤ cs.size ∧ ∀ i, i < xs.length → cs[off + i]? = some (.int .i64 (xs.getD i 0))
theorem Tl.nil (w : World) (B : Nat) : Tl w B (.slice none 0 0) [] := .inl ⟨rfl, rfl⟩
theorem Tl.upd {w w' : World} {B : Nat} {v : Value} {xs : List Int} (h : Tl w B v xs) {R : Nat → Prop} (hu : Upd R w w') (hR : ∀ g, B ≤ g → ¬ R g) : Tl w' B v xs := by
  rcases h with h | ⟨g, off, cap, cs, h1, h2, h3, r⟩
  · exact .inl h
  · exact .inr ⟨g, off, cap, cs, h1, h2, (hu.block g (lt_of_block h3) (hR g h2)).trans h3, r⟩
theorem Tl.grow {w w' : World} {B : Nat} {v : Value} {xs : List Int} (h : Tl w B v xs) (hu : Upd noBlock w w') : Tl w' B v xs := h.upd hu fun _ _ h => h
theorem Tl.slice {w : World} {B : Nat} {v : Value} {xs : List Int} (h : Tl w B v xs) : ∃ a c, v = .slice a xs.length c ∧ xs.length ≤ c ∧ Ints w w.heap.size a xs.length xs := by
  rcases h with ⟨rfl, rfl⟩ | ⟨g, off, cap, cs, h1, h2, h3, h4, _, h6, h7⟩
  · exact ⟨none, 0, rfl, Nat.le_refl _, rfl, fun h => absurd h (Nat.lt_irrefl _)⟩
  · exact ⟨_, cap, h1, h4, rfl, fun _ => ⟨g, off, rfl, lt_of_block h3, fun i hi => by rw [cell_of h3]; exact h7 i hi⟩⟩
/-- the first taken off -/
theorem Tl.tail {w : World} {B : Nat} {a : Option Addr} {c n : Nat} {x : Int} {xs : List Int} (h : Tl w B (.slice a n c) (x :: xs)) : Tl w B (.slice (if c = 1 then a else a.map (·.add 1)) (n - 1) (c - 1)) xs := by
  rcases h with ⟨h1, h2⟩ | ⟨g, off, cap, cs, h1, h2, h3, h4, h5, h6, h7⟩
  · cases h2
  · simp only [Value.slice.injEq] at h1
    obtain ⟨rfl, rfl, rfl⟩ := h1
    rw [List.length_cons] at h4 h7
    refine .inr ?_
    by_cases e : c = 1
    · subst e
      rw [if_pos rfl]
      have hx : xs.length = 0 := by omega
      exact ⟨g, off, 0, cs, by simp [hx], h2, h3, by omega, Nat.zero_le _, by omega, fun i hi => by omega⟩
    · rw [if_neg e]
      refine ⟨g, off + 1, c - 1, cs, by simp [Addr.add], h2, h3, by omega, by omega, by omega, fun i hi => ?_⟩
      have := h7 (i + 1) (by omega)
      rw [show off + 1 + i = off + (i + 1) by omega, this]
      rfl
section
variable {P : Program}
theorem run_append_tl {w : World} {B : Nat} {v : Value} {xs : List Int} (hb : Tl w B v xs) (t ty : TypeId) (i : TypeInfo) (ht : P.underlying t = some (.slice 3)) (hi : P.info? 3 = some i) (hz : i.zero = some (.int .i64 0)) (hsize : i.size = 1) (hby : i.bytes = 8)
    (h : Nat) (x : Int) (hx : w.cell? ⟨h, 0, none⟩ = some (.int .i64 x)) (hl : (xs.length + 1) * 8 ≤ 140737488355328) (hBw : B ≤ w.heap.size) :
    ∃ v' w', (Builtin.append_ #[t, t] ty #[v, .slice (some ⟨h, 0, none⟩) 1 1]).run P w = .ok v' w' ∧ Tl w' B v' (xs ++ [x]) ∧ Upd (fun k => B ≤ k) w w' := by
  have hadd : ∀ g off j, (⟨g, off, none⟩ : Addr).add j = ⟨g, off + j, none⟩ := fun g off j => by
    by_cases h0 : j = 0
    · subst h0; simp [Addr.add]
    · simp [Addr.add, h0]
  have hsrc : Src P i.size t (.slice (some ⟨h, 0, none⟩) 1 1) 1 [.int .i64 x] w := Src.ofSlice w ht ⟨h, 0, none⟩ 1 1 _ (by rw [hsize]; rfl) (fun j u hu => by
    have hj : j = 0 := by have := (List.getElem?_eq_some_iff.1 hu).1; simpa using this
    subst hj
    rw [hadd, hx]; exact hu) (fun u hu => by simp at hu; subst hu; rfl)
  have grow : ∀ (base : Option Addr) (cap : Nat), cap < xs.length + 1 → (Builtin.firstCells i.size xs.length (.slice base xs.length cap)).run P w.drew = .ok (xs.map fun c => Value.int .i64 c).toArray w.drew →
      ∃ v' w', (Builtin.append_ #[t, t] ty #[.slice base xs.length cap, .slice (some ⟨h, 0, none⟩) 1 1]).run P w = .ok v' w' ∧ Tl w' B v' (xs ++ [x]) ∧ Upd (fun k => B ≤ k) w w' := by
    intro base cap hlt hold
    have hfit : Builtin.nextslicecap (xs.length + 1) cap * i.bytes ≤ 281474976710656 := growslice_fits hlt (by rw [hby]; omega)
    have hrun := run_append_grow_src (P := P) w t t ty 3 i _ ht hi hz base xs.length cap _ hold _ 1 _ hsrc hlt (by omega) hfit
    have hge := grownCap_ge w (xs.length + 1) cap 3
    have hle := grownCap_le_maxLen w (xs.length + 1) cap 3 (by unfold maxLen; omega)
    generalize grownCap w (xs.length + 1) cap 3 = k at *
    refine ⟨_, _, hrun, .inr ⟨w.heap.size, 0, k, _, by rw [List.length_append]; rfl, hBw, heap_alloc_new w.drew _, by rw [List.length_append]; simpa using hge, hle, ?_, fun j hj => ?_⟩, ((Upd.refl _ _).drew).alloc _⟩
    · rw [Array.size_append, size_zeroCells]
      simp [Value.cells]; omega
    · rw [List.length_append, List.length_singleton] at hj
      rw [Nat.zero_add, Array.getElem?_append_left (by simp; omega)]
      by_cases e1 : j = xs.length
      · subst e1
        rw [List.getD_eq_getElem?_getD]
        simp
      · have hj2 : j < xs.length := by omega
        rw [List.getD_eq_getElem?_getD]
        simp [List.getElem?_append, hj2]
  rcases hb with ⟨rfl, rfl⟩ | ⟨g, off, cap, cs, rfl, hB, hg, hlc, hcm, hcs, hc⟩
  · exact grow none 0 (by simp) (by simp [Builtin.firstCells])
  · by_cases hroom : xs.length + 1 ≤ cap
    · have hcell : (w.cell? ⟨g, off + xs.length, none⟩).isSome = true := by
        rw [cell_of hg, Array.getElem?_eq_getElem (by omega)]; rfl
      have hrun := run_append_room_src (P := P) w t t ty 3 i ht hi g off xs.length cap _ 1 _ hsrc hroom (fun j hj => by
        have : j = 0 := by simpa using hj
        subst this; rw [hsize]; simpa using hcell) (fun j hj => by
        have : j = 0 := by simpa using hj
        subst this; rw [hsize]; exact free_of hg _)
      rw [hsize, Nat.mul_one] at hrun
      refine ⟨_, _, hrun, .inr ⟨g, off, cap, cs.setIfInBounds (off + xs.length) (.int .i64 x), by rw [List.length_append]; rfl, hB, block_set hg _, by rw [List.length_append]; simpa using hroom, hcm, by rw [Array.size_setIfInBounds]; exact hcs, fun j hj => ?_⟩, ?_⟩
      · rw [List.length_append, List.length_singleton] at hj
        rw [Array.getElem?_setIfInBounds]
        by_cases e1 : j = xs.length
        · subst e1
          rw [if_pos rfl, if_pos (by omega), List.getD_eq_getElem?_getD]
          simp
        · have hj2 : j < xs.length := by omega
          rw [if_neg (by omega), hc j hj2, List.getD_eq_getElem?_getD, List.getD_eq_getElem?_getD, List.getElem?_append_left hj2]
      · show Upd _ w (w.setCell ⟨g, off + xs.length, none⟩ (.int .i64 x))
        exact (Upd.refl _ _).setCell (.inl hB) _
    · have hlt : cap < xs.length + 1 := by omega
      refine grow (some ⟨g, off, none⟩) cap hlt (run_firstCells_some w.drew i.size xs.length ⟨g, off, none⟩ xs.length cap _ (by rw [List.length_map, hsize, Nat.mul_one]) (fun j u hu => ?_))
      have hj : j < xs.length := by have := (List.getElem?_eq_some_iff.1 hu).1; simpa using this
      rw [List.getElem?_map, List.getElem?_eq_getElem hj] at hu
      rw [hadd]
      show w.cell? _ = _
      rw [cell_of hg, hc j hj, List.getD_eq_getElem?_getD, List.getElem?_eq_getElem hj]
      exact hu
theorem wpList_append_tl {w : World} {ops : Array Oper} {rest : List Oper} {o : Oper} {a : Act} {Q : Exit → Act → World → Prop} (hgd : o.guard = none) (s x : Operand) (t : TypeId)
    (ho : o.op = .call { callee := .builtin .append, args := #[s, x], argTypes := #[t, t] })
    (B : Nat) (v : Value) (xs : List Int) (hs : a.eval s = v) (hb : Tl w B v xs) (i : TypeInfo) (ht : P.underlying t = some (.slice 3)) (hi : P.info? 3 = some i) (hz : i.zero = some (.int .i64 0)) (hsize : i.size = 1) (hby : i.bytes = 8)
    (h : Nat) (y : Int) (hxe : a.eval x = .slice (some ⟨h, 0, none⟩) 1 1) (hx : w.cell? ⟨h, 0, none⟩ = some (.int .i64 y)) (hl : (xs.length + 1) * 8 ≤ 140737488355328) (hBw : B ≤ w.heap.size)
    (hk : ∀ v' w', Tl w' B v' (xs ++ [y]) → Upd (fun k => B ≤ k) w w' → wpList P ops Q rest (a.put o.dst v') w') : wpList P ops Q (o :: rest) a w :=
  wpList_plain hgd fun _ hK => by
    obtain ⟨v', w', hrun, h2, h3⟩ := run_append_tl (P := P) hb t o.type i ht hi hz hsize hby h y hx hl hBw
    unfold Oper.wp execOp
    simp only [ho, resolve, invoke, builtin, Sem.run_bind, Sem.run_pure, Result.andThen_ok, List.map_toArray, List.map_cons, List.map_nil, hs, hxe, hrun]
    exact hK _ _ (hk v' w' h2 h3)
end
end Go.Proofs.Ytkjajmhanhbkdaa
