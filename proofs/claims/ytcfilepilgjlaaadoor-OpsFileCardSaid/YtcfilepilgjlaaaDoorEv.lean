/- OpsFile: the file, its pieces and the changes in memory. -/
import Derived.Test.YtcfilepilgjlaaaDoorEt
import Derived.Test.YtcfilepilgjlaaaDoorEl
namespace Go.Proofs.YtcfilepilgjlaaaDoor
open Go.RowKit

theorem RS.rows {w w' : World} {g n : Nat} {f : Nat → ByteArray} {B e m : Nat} {v : Value} {xs : List Value} {sz : Nat} (h : RS w g n f) (ho : w.ownsRow B e sz v m xs) (he : e ≠ 9) (hg : w.grownBy w' v.ownBlock) : RS w' g n f := by
  refine h.keep (hg.block g h.lt (fun e1 => ?_))
  obtain ⟨_, C, hC⟩ := own_base8 ho g e1.symm
  obtain ⟨cur, hc, _⟩ := h
  rw [hC] at hc
  cases hc
  exact he rfl
theorem OwnB.head8 {w : World} {B g n cap : Nat} {l : List UInt8} (h : OwnB w B (.slice (some ⟨g, 0, none⟩) n cap) l) (o : Nat) (ho : o ≤ l.length) : OwnB w B (.slice (some ⟨g, 0, none⟩) o cap) (l.take o) := by
  obtain ⟨hl, h⟩ := h
  have e : (l.take o).length = o := by rw [List.length_take]; omega
  rcases h with ⟨h1, _⟩ | ⟨g', cap', cur, h1, hb, hg, hnc, hcm, hsz, htake⟩
  · cases h1
  · cases h1
    refine ⟨by rw [e, bc_length, e, Nat.mul_one], .inr ⟨g, cap, cur, by rw [e], hb, hg, by omega, hcm, hsz, ?_⟩⟩
    rw [e]
    have e2 : bc (l.take o) = (bc l).take o := by unfold bc; rw [List.map_take]
    rw [e2, ← htake, List.take_take]
    congr 1; omega
theorem OwnB.form8 {w : World} {B n : Nat} {v : Value} {l : List UInt8} (h : OwnB w B v l) (h0 : 0 < l.length) (hn : l.length = n) : ∃ g cap, v = .slice (some ⟨g, 0, none⟩) n cap ∧ n ≤ cap ∧ B ≤ g := by
  subst hn
  rcases h.2 with ⟨_, h2⟩ | ⟨g, cap, cur, h1, hb, _, hnc, _⟩
  · omega
  · exact ⟨g, cap, h1, hnc, hb⟩
theorem bytesAt_take (φ : Nat → UInt8) (n o : Nat) (ho : o ≤ n) : (bytesAt φ 0 n).take o = bytesAt (fun x => if x < o then φ x else 0) 0 o := by
  apply List.ext_getElem
  · rw [List.length_take, bytesAt_length, bytesAt_length]; omega
  · intro i h1 h2
    rw [bytesAt_length] at h2
    rw [List.getElem_take, bytesAt_get, bytesAt_get, if_pos (by omega)]
theorem own_blk8 {w w' : World} {B : Nat} {e : TypeId} {n m : Nat} {v : Value} {xs : List Value} (h : w.ownsRow B e n v m xs) (hk : ∀ k, v.ownBlock = some k → w'.heap[k]? = w.heap[k]?) : w'.ownsRow B e n v m xs := by
  obtain ⟨hl, h⟩ := h
  refine ⟨hl, ?_⟩
  rcases h with ⟨h1, h2⟩ | ⟨g, cap, cur, rfl, hb, hg, r⟩
  · exact .inl ⟨h1, h2⟩
  · exact .inr ⟨g, cap, cur, rfl, hb, (hk g rfl).trans hg, r⟩
theorem OwnB.set8 {w : World} {B g m cap : Nat} {ψ : Nat → UInt8} (h : OwnB w B (.slice (some ⟨g, 0, none⟩) m cap) (bytesAt ψ 0 m)) (i : Nat) (hi : i < m) (x : UInt8) :
    OwnB (w.setCell ⟨g, i, none⟩ (.int .u8 ((x.toNat : Nat) : Int))) B (.slice (some ⟨g, 0, none⟩) m cap) (bytesAt (fun j => if j = i then x else ψ j) 0 m) := by
  obtain ⟨hl, h⟩ := h
  rw [bytesAt_length] at hl h
  rcases h with ⟨h1, _⟩ | ⟨g', cap', cur, h1, hb, hg, hnc, hcm, hsz, htake⟩
  · cases h1
  · cases h1
    refine ⟨by rw [bytesAt_length, bc_length, bytesAt_length, Nat.mul_one], .inr ⟨g, cap, _, by rw [bytesAt_length], hb, block_set hg _, by rw [bytesAt_length]; exact hnc, hcm, by rw [Array.size_setIfInBounds]; exact hsz, ?_⟩⟩
    rw [bytesAt_length]
    apply List.ext_getElem?
    intro j
    have hj : (List.take (m * 1) cur.toList)[j]? = (bc (bytesAt ψ 0 m))[j]? := by rw [htake]
    rw [List.getElem?_take] at hj ⊢
    by_cases c : j < m
    · rw [if_pos (by omega), Array.getElem?_toList, bc_get _ _ (by rw [bytesAt_length]; exact c), bytesAt_get] at hj
      rw [if_pos (by omega), Array.getElem?_toList, bc_get _ _ (by rw [bytesAt_length]; exact c), bytesAt_get, Array.getElem?_setIfInBounds, Nat.zero_add]
      rw [Nat.zero_add] at hj
      by_cases e : j = i
      · subst e; rw [if_pos rfl, if_pos rfl, if_pos (by rw [hsz]; omega)]
      · rw [if_neg (Ne.symm e), if_neg e]; exact hj
    · rw [if_neg (by omega), List.getElem?_eq_none (by rw [bc_length, bytesAt_length]; omega)]
/-- the file, its pieces and the changes, while they are made -/
structure FSt (w wr : World) (gP : Nat) (f : Nat → ByteArray) (y : Value) (L : List (Int × List UInt8)) (v : Value) (m : Nat) (φ : Nat → UInt8) : Prop where
  own : OwnB wr w.heap.size v (bytesAt φ 0 m)
  pcs : RS wr gP 200 f
  chg : wr.ownsRow w.heap.size 42 6 y L.length (chL 1 L)
  up : Upd noBlock w wr
theorem FSt.grow {w wr wr' : World} {gP : Nat} {f : Nat → ByteArray} {y : Value} {L : List (Int × List UInt8)} {v : Value} {m : Nat} {φ : Nat → UInt8} (h : FSt w wr gP f y L v m φ) (hu : Upd noBlock wr wr') : FSt w wr' gP f y L v m φ :=
  ⟨h.own.grow hu, h.pcs.grow hu, own_grow8 h.chg hu, h.up.trans hu⟩
theorem FSt.app {w wr w2 : World} {gP : Nat} {f : Nat → ByteArray} {y : Value} {L : List (Int × List UInt8)} {v v' : Value} {m : Nat} {φ : Nat → UInt8} (h : FSt w wr gP f y L v m φ) (hφ : φ m = 0) (hg : wr.grownBy w2 v.ownBlock) (ho : w2.ownsRow w.heap.size 5 1 v' (m + 1) (bc (bytesAt φ 0 m) ++ [.int .u8 0])) : FSt w w2 gP f y L v' (m + 1) φ := by
  refine ⟨?_, h.pcs.rows h.own (by decide) hg, own_other8 h.chg h.own (by decide) hg, upd_of_grown h.up hg (fun k hk => .inr (own_base8 h.own k hk).1)⟩
  have e : bc (bytesAt φ 0 (m + 1)) = bc (bytesAt φ 0 m) ++ [.int .u8 0] := by
    rw [bytesAt_snoc, bc_append, Nat.zero_add, hφ]; rfl
  show w2.ownsRow _ _ _ _ _ _
  rw [bytesAt_length, e]
  exact ho
theorem FSt.set {w wr : World} {gP : Nat} {f : Nat → ByteArray} {y : Value} {L : List (Int × List UInt8)} {g m cap : Nat} {φ : Nat → UInt8} (h : FSt w wr gP f y L (.slice (some ⟨g, 0, none⟩) m cap) m φ) (i : Nat) (hi : i < m) (x : UInt8) :
    FSt w (wr.setCell ⟨g, i, none⟩ (.int .u8 ((x.toNat : Nat) : Int))) gP f y L (.slice (some ⟨g, 0, none⟩) m cap) m (fun j => if j = i then x else φ j) := by
  obtain ⟨hb, C, hC⟩ := own_base8 h.own g rfl
  refine ⟨h.own.set8 i hi x, h.pcs.keep (Below.heap_setCell wr _ _ gP (fun e => ?_)), own_blk8 h.chg (fun k hk => Below.heap_setCell wr _ _ k (fun e => ?_)), h.up.setCell (.inr hb) _⟩
  · obtain ⟨cur, hc, _⟩ := h.pcs
    have e' : gP = g := e
    rw [e', hC] at hc
    cases hc
  · obtain ⟨_, D, hD⟩ := own_base8 h.chg k hk
    have e' : k = g := e
    rw [e', hC] at hD
    cases hD
def slLen : Value → Nat
  | .slice _ l _ => l
  | _ => 0
theorem laid_snoc (φ : Nat → UInt8) (o k : Nat) (d : List UInt8) (hk : k < d.length) (j : Nat) : (if j = o + k then d[k] else laid φ o d k j) = laid φ o d (k + 1) j := by
  unfold laid
  by_cases e : j = o + k
  · subst e
    rw [if_pos rfl, if_pos (by omega), Nat.add_sub_cancel_left, List.getD_eq_getElem?_getD, List.getElem?_eq_getElem hk]; rfl
  · rw [if_neg e]
    by_cases c : o ≤ j ∧ j < o + k
    · rw [if_pos c, if_pos (by omega)]
    · rw [if_neg c, if_neg (by omega)]
theorem slice_S (w : World) (g n a b : Nat) (x y : Int) (hx : x = (a : Int)) (hy : y = (b : Int)) (hab : a ≤ b) (hb : b ≤ n) (ha : a < n) :
    (Instr.sliceAt 23 (.slice (some ⟨g, 0, none⟩) n n) (some (.int .i64 x)) (some (.int .i64 y)) none).run Tryd.prog w = .ok (.slice (some ⟨g, a, none⟩) (b - a) (n - a)) w := by
  obtain ⟨i0, hi0, _, hz1, _⟩ := strParts8
  subst hx hy
  have h1 : (a : Int) ≤ (b : Int) := by omega
  have h2 : (b : Int) ≤ (n : Int) := by omega
  have h3 : ¬ n = a := by omega
  simp [Instr.sliceAt, Instr.slice, run_underlying Tryd.underlying23, Instr.sliceBounds, run_sliceBound, sizeOf, typeInfo, hi0, hz1, h1, h2, h3, Addr.add]
  try (intro h; exact h.symm)
end Go.Proofs.YtcfilepilgjlaaaDoor
