import Derived.Test.YtoledgpcgjdjjaaGreatDoorQGBy
import Derived.Test.YtoledgpcgjdjjaaGreatDoorRows
import Derived.WalkKit
import Derived.Lib.Hide
import Derived.Maps.AppendAt
import Derived.Laws.IdiomCopy
import Derived.Deep.AppendLies
import Derived.Laws.BytesArg
import Derived.RegionTactic
import Derived.Deep.RegionLaw
import Derived.BigRegion
import Derived.Test.YtoledgpcgjdjjaaGreatDoorQApp
/- Slices of bytes of the call's own, nil too: what is appended may be a text's bytes or a slice's; back to a text. -/
namespace Go.Proofs.YtoledgpcgjdjjaaGreatDoor
open Go.RowKit

theorem setCells_blockZ (g : Nat) (e : TypeId) (z : Nat × Nat) : ∀ (vs : List Value) (n : Nat) (w : World) (cur : Array Value), w.heap[g]? = some (.cells cur e z) → n + vs.length ≤ cur.size →
    (w.setCells g n vs).heap[g]? = some (.cells (cur.toList.take n ++ vs ++ cur.toList.drop (n + vs.length)).toArray e z)
  | [], n, w, cur, hg, _ => by
    have : (cur.toList.take n ++ [] ++ cur.toList.drop (n + 0)).toArray = cur := by simp
    simp only [List.length_nil]
    rw [this]; exact hg
  | x :: vs, n, w, cur, hg, hn => by
    simp only [List.length_cons] at hn
    have h := setCells_blockZ g e z vs (n + 1) (w.setCell ⟨g, n, none⟩ x) _ (block_set hg x) (by rw [Array.size_setIfInBounds]; omega)
    show ((w.setCell ⟨g, n, none⟩ x).setCells g (n + 1) vs).heap[g]? = _
    rw [h]
    have hlt : n < cur.toList.length := by show n < cur.size; omega
    have e1 : (cur.setIfInBounds n x).toList = cur.toList.set n x := by simp
    have e2 : (cur.toList.set n x).take (n + 1) = cur.toList.take n ++ [x] := by
      rw [List.take_add_one, List.take_set_of_le (Nat.le_refl _), List.getElem?_set_self hlt]
      rfl
    have e3 : (cur.toList.set n x).drop (n + 1 + vs.length) = cur.toList.drop (n + (vs.length + 1)) := by
      rw [List.drop_set_of_lt (by omega), show n + 1 + vs.length = n + (vs.length + 1) by omega]
    rw [e1, e2, e3]
    simp [List.append_assoc]
theorem setCells_upd (g : Nat) : ∀ (vs : List Value) (n : Nat) (w : World), (w.setCells g n vs).heap.size = w.heap.size ∧ (∀ k, k ≠ g → (w.setCells g n vs).heap[k]? = w.heap[k]?) ∧ (w.setCells g n vs).os = w.os ∧ (w.setCells g n vs).tape = w.tape ∧ (w.setCells g n vs).output = w.output
  | [], _, _ => ⟨rfl, fun _ _ => rfl, rfl, rfl, rfl⟩
  | x :: vs, n, w => by
    obtain ⟨h1, h2, h3, h4, h5⟩ := setCells_upd g vs (n + 1) (w.setCell ⟨g, n, none⟩ x)
    exact ⟨h1.trans (by simp [World.setCell]), fun k hk => (h2 k hk).trans (Below.heap_setCell w ⟨g, n, none⟩ x k hk), h3, h4, h5⟩
section
variable {P : Program} (w : World)
theorem run_append_own_src (base : Nat) (t tx ty e : TypeId) (i : TypeInfo) (z : Value) (bytes : Nat) (ht : P.underlying t = some (.slice e)) (hi : P.info? e = some i) (hz : i.zero = some z)
    (hsize : i.size = 1) (hby : i.bytes = bytes) (hzs : z.cells.size = 1)
    (v : Value) (n : Nat) (xs : List Value) (hown : w.ownsRow base e 1 v n xs)
    (x : Value) (m : Nat) (news : List Value) (hs : Src P 1 tx x m news w) (hm : 0 < m)
    (h63 : n + m ≤ maxLen) (hbytes : (n + m) * bytes ≤ 140737488355328) (hbase : base ≤ w.heap.size) :
    ∃ v' w', (Builtin.append_ #[t, tx] ty #[v, x]).run P w = .ok v' w' ∧ w'.ownsRow base e 1 v' (n + m) (xs ++ news) ∧ w.grownBy w' v.ownBlock ∧
      (v'.ownBlock = v.ownBlock ∨ v'.ownBlock = some w.heap.size) := by
  subst hby
  have hl : news.length = m := by rw [hs.newsLen, Nat.mul_one]
  have hs' : Src P i.size tx x m news w := by rw [hsize]; exact hs
  have hsmall : n + m ≤ 9223372036854775807 := by simp only [maxLen] at h63; omega
  have hlen : (xs ++ news).length = (n + m) * 1 := by rw [List.length_append, hown.1, hl]; omega
  have grown : ∀ (old : Nat), old < n + m → ∀ (row : Option Nat),
      (w.drew.alloc (.cells ((xs ++ news).toArray ++ Builtin.zeroCells z.cells (grownCap w (n + m) old e - (n + m))) e)).ownsRow base e 1
        (.slice (some ⟨w.heap.size, 0, none⟩) (n + m) (grownCap w (n + m) old e)) (n + m) (xs ++ news) ∧
      w.grownBy (w.drew.alloc (.cells ((xs ++ news).toArray ++ Builtin.zeroCells z.cells (grownCap w (n + m) old e - (n + m))) e)) row := by
    intro old ho row
    have hge := grownCap_ge w (n + m) old e
    have hcm : grownCap w (n + m) old e ≤ maxLen := grownCap_le_maxLen w (n + m) old e h63
    refine ⟨⟨hlen, .inr ⟨w.heap.size, _, _, rfl, hbase, heap_alloc_new w.drew _, hge, hcm, ?_, ?_⟩⟩, ⟨rfl, rfl, rfl, by simp, fun k hk _ => Below.heap_alloc w.drew _ k hk⟩⟩
    · simp only [Array.size_append, List.size_toArray, size_zeroCells, hzs, hlen]
      omega
    · simp only [Array.toList_append]
      rw [← hlen]
      exact List.take_left
  rcases hown.2 with ⟨rfl, rfl⟩ | ⟨g, cap, cur, rfl, hbg, hg, hnc, hcm, hcs, htake⟩
  · have hx : xs = [] := List.eq_nil_of_length_eq_zero (by simpa using hown.1)
    subst hx
    have hold : (Builtin.firstCells i.size 0 (.slice none 0 0)).run P w.drew = .ok ([] : List Value).toArray w.drew := run_firstCells_none w.drew i.size 0 0 0
    have hr := run_append_grow_src (P := P) w t tx ty e i z ht hi hz none 0 0 [] hold x m news hs' (by omega) (by omega) (growslice_fits (by omega) hbytes)
    have hgr := grown 0 (by omega) (Value.ownBlock (.slice none 0 0))
    exact ⟨_, _, hr, hgr.1, hgr.2, .inr rfl⟩
  · by_cases hroom : n + m ≤ cap
    · have hfit : n + news.length ≤ cur.size := by rw [hl, hcs]; omega
      have hr := run_append_room_src (P := P) w t tx ty e i ht hi g 0 n cap x m news hs' hroom (fun j hj => by
        rw [hsize, Nat.mul_one, Nat.zero_add, cell_of hg, Array.getElem?_eq_getElem (by omega)]; rfl) (fun j hj => free_of hg _)
      rw [hsize, Nat.zero_add, Nat.mul_one] at hr
      have hset := setCells_blockZ g e (0, 0) news n w cur hg hfit
      obtain ⟨s1, s2, s3, s4, s5⟩ := setCells_upd g news n w
      refine ⟨_, _, hr, ⟨hlen, .inr ⟨g, cap, _, rfl, hbg, hset, hroom, hcm, ?_, ?_⟩⟩, ⟨s3, s4, s5, Nat.le_of_eq s1.symm, fun k _ hk => s2 k (fun e => hk (by simp [Value.ownBlock, e]))⟩, .inl rfl⟩
      · simp only [List.size_toArray, List.length_append, List.length_take, List.length_drop, Array.length_toList]
        omega
      · have hx : cur.toList.take n = xs := by rw [← htake, Nat.mul_one]
        rw [hx, ← hlen]
        exact List.take_left
    · have holds : ∀ j u, xs[j]? = some u → w.cell? ((⟨g, 0, none⟩ : Addr).add j) = some u := hown.cells (g := g) rfl
      have hold : (Builtin.firstCells i.size n (.slice (some ⟨g, 0, none⟩) n cap)).run P w.drew = .ok xs.toArray w.drew :=
        run_firstCells_some w.drew i.size n ⟨g, 0, none⟩ n cap xs (by rw [hown.1, hsize]) (by simpa using holds)
      have hr := run_append_grow_src (P := P) w t tx ty e i z ht hi hz (some ⟨g, 0, none⟩) n cap xs hold x m news hs' (by omega) (by omega) (growslice_fits (by omega) hbytes)
      have hgr := grown cap (by omega) (Value.ownBlock (.slice (some ⟨g, 0, none⟩) n cap))
      exact ⟨_, _, hr, hgr.1, hgr.2, .inr rfl⟩
theorem wpList_append_src {ops : Array Oper} {rest : List Oper} {o : Oper} {a : Act} {Q : Exit → Act → World → Prop} (hgd : o.guard = none) (s xo : Operand) (t tx : TypeId)
    (ho : o.op = .call { callee := .builtin .append, args := #[s, xo], argTypes := #[t, tx] })
    (base : Nat) (e : TypeId) (i : TypeInfo) (z : Value) (bytes : Nat) (ht : P.underlying t = some (.slice e)) (hi : P.info? e = some i) (hz : i.zero = some z)
    (hsize : i.size = 1) (hby : i.bytes = bytes) (hzs : z.cells.size = 1)
    (v : Value) (n : Nat) (xs : List Value) (hse : a.eval s = v) (hown : w.ownsRow base e 1 v n xs)
    (x : Value) (m : Nat) (news : List Value) (hxe : a.eval xo = x) (hs : Src P 1 tx x m news w) (hm : 0 < m)
    (h63 : n + m ≤ maxLen) (hbytes : (n + m) * bytes ≤ 140737488355328) (hbase : base ≤ w.heap.size)
    (h : ∀ v' w', w'.ownsRow base e 1 v' (n + m) (xs ++ news) → w.grownBy w' v.ownBlock → (v'.ownBlock = v.ownBlock ∨ v'.ownBlock = some w.heap.size) → wpList P ops Q rest (a.put o.dst v') w') : wpList P ops Q (o :: rest) a w :=
  wpList_plain hgd fun _ hK => by
    obtain ⟨v', w', hrun, h2, h3, h4⟩ := run_append_own_src (P := P) w base t tx o.type e i z bytes ht hi hz hsize hby hzs v n xs hown x m news hs hm h63 hbytes hbase
    unfold Oper.wp execOp
    simp only [ho, resolve, invoke, builtin, Sem.run_bind, Sem.run_pure, Result.andThen_ok, List.map_toArray, List.map_cons, List.map_nil, hse, hxe, hrun]
    exact hK _ _ (h v' w' h2 h3 h4)
end

def bc (l : List UInt8) : List Value := l.map fun b => Value.int .u8 b.toNat
theorem bc_append (a b : List UInt8) : bc (a ++ b) = bc a ++ bc b := List.map_append
theorem bc_get (l : List UInt8) (j : Nat) (h : j < l.length) : (bc l)[j]? = some (.int .u8 (l[j].toNat : Int)) := by
  unfold bc; rw [List.getElem?_map, List.getElem?_eq_getElem h]; rfl
theorem bc_one (l : List UInt8) : ∀ u ∈ bc l, u.oneCell' = true := by
  intro u hu
  obtain ⟨_, _, rfl⟩ := List.mem_map.1 hu
  rfl
def OwnB (w : World) (B : Nat) (v : Value) (l : List UInt8) : Prop := w.ownsRow B 5 1 v l.length (bc l)
theorem OwnB.upd {w w' : World} {B : Nat} {v : Value} {l : List UInt8} (h : OwnB w B v l) {R : Nat → Prop} (hu : Upd R w w') (hR : ∀ g, v.ownBlock = some g → ¬ R g) : OwnB w' B v l := by
  obtain ⟨hl, h⟩ := h
  refine ⟨hl, ?_⟩
  rcases h with ⟨h1, h2⟩ | ⟨g, cap, cur, rfl, hb, hg, r⟩
  · exact .inl ⟨h1, h2⟩
  · exact .inr ⟨g, cap, cur, rfl, hb, (hu.block g (lt_of_block hg) (hR g rfl)).trans hg, r⟩
theorem OwnB.grow {w w' : World} {B : Nat} {v : Value} {l : List UInt8} (h : OwnB w B v l) (hu : Upd noBlock w w') : OwnB w' B v l := h.upd hu fun _ _ h => h
theorem OwnB.nil (w : World) (B : Nat) : OwnB w B (.slice none 0 0) [] := World.ownsRow_nil _ _ _ _
theorem OwnB.join {w : World} {B : Nat} {v : Value} {l : List UInt8} {m : Nat} {news : List Value} {k : List UInt8} (hn : news = bc k) (hm : m = k.length) (h : w.ownsRow B 5 1 v (l.length + m) (bc l ++ news)) : OwnB w B v (l ++ k) := by
  unfold OwnB; subst hn; subst hm
  rw [List.length_append, bc_append]; exact h
theorem OwnB.cell {w : World} {B : Nat} {v : Value} {l : List UInt8} (h : OwnB w B v l) (h0 : 0 < l.length) :
    ∃ g cap, v = .slice (some ⟨g, 0, none⟩) l.length cap ∧ B ≤ g ∧ g < w.heap.size ∧ ∀ j (h : j < l.length), w.cell? ⟨g, j, none⟩ = some (.int .u8 (l[j].toNat : Int)) := by
  obtain ⟨g, cap, rfl, hB, hg⟩ := World.ownsRow.form h h0
  refine ⟨g, cap, rfl, hB, hg, fun j hj => ?_⟩
  have := World.ownsRow.cells (g := g) h rfl j _ (bc_get l j hj)
  rwa [add_zero_addr] at this
theorem OwnB.slice {w : World} {B : Nat} {v : Value} {l : List UInt8} (h : OwnB w B v l) : ∃ a cap, v = .slice a l.length cap := by
  rcases h.2 with ⟨h1, h2⟩ | ⟨g, cap, cur, h1, _⟩
  · exact ⟨none, 0, by rw [h2, h1]⟩
  · exact ⟨_, _, h1⟩
theorem OwnB.bound {w : World} {B : Nat} {v : Value} {l : List UInt8} (h : OwnB w B v l) : l.length ≤ maxLen := by
  rcases h.2 with ⟨_, h2⟩ | ⟨g, cap, cur, _, _, _, h1, h2, _⟩
  · rw [h2]; exact Nat.zero_le _
  · exact Nat.le_trans h1 h2
theorem OwnB.text {w : World} {B : Nat} {v : Value} {l : List UInt8} (h : OwnB w B v l) : (convert 105 9 v).run Tryz.prog w = .ok (.string ⟨l.toArray⟩) w := by
  rcases h.2 with ⟨rfl, h2⟩ | ⟨g, cap, cur, rfl, _⟩
  · obtain rfl : l = [] := List.eq_nil_of_length_eq_zero h2
    exact run_convert_bytes_nil (w := w) 105 5 Tryz.underlying105 Tryz.underlying5 0 0 9 Tryz.underlying9
  · exact run_convert_bytes_back w 105 9 5 ⟨g, 0, none⟩ cap l Tryz.underlying105 Tryz.underlying5 Tryz.underlying9 (fun j hj => World.ownsRow.cells (g := g) h rfl j _ (bc_get l j hj))
theorem upd_of_grown {R : Nat → Prop} {a w w' : World} {row : Option Nat} (h : Upd R a w) (hg : w.grownBy w' row) (hr : ∀ k, row = some k → R k ∨ a.heap.size ≤ k) : Upd R a w' :=
  ⟨hg.os.trans h.os, hg.tape.trans h.tape, hg.output.trans h.output, Nat.le_trans h.size hg.size, fun k hk hn => (hg.block k (Nat.lt_of_lt_of_le hk h.size) (fun e => by
    rcases hr k e.symm with h1 | h1
    · exact hn h1
    · omega)).trans (h.block k hk hn)⟩
theorem byteInfoB : (Tryz.prog.info? 5).map (fun i => (i.zero, i.size, i.bytes)) = some (some (.int .u8 0), 1, 1) := by kernel_rfl
end Go.Proofs.YtoledgpcgjdjjaaGreatDoor

/- Slices of int and of bytes of the call's own: stored into; bits as numbers. -/
namespace Go.Proofs.YtoledgpcgjdjjaaGreatDoor
open Go.RowKit

theorem own_cells {w : World} {B e n : Nat} {v : Value} {xs : List Value} (h : w.ownsRow B e 1 v n xs) (h0 : 0 < n) :
    ∃ g cap, v = .slice (some ⟨g, 0, none⟩) n cap ∧ B ≤ g ∧ g < w.heap.size ∧ (∀ i, i < n → w.cell? ⟨g, i, none⟩ = xs[i]?) ∧ (∀ i, w.frozen? ⟨g, i, none⟩ = false) ∧
      (∀ (w2 : World) i u, w2.heap[g]? = w.heap[g]? → (w2.setCell ⟨g, i, none⟩ u).ownsRow B e 1 v n (xs.set i u)) := by
  obtain ⟨hl, h⟩ := h
  rcases h with ⟨rfl, rfl⟩ | ⟨g, cap, cur, rfl, hb, hg, hnc, hcm, hsz, htake⟩
  · omega
  · refine ⟨g, cap, rfl, hb, lt_of_block hg, fun i hi => ?_, free_of hg, fun w2 i u h2 => ?_⟩
    · rw [cell_of hg i]
      have : (cur.toList.take (n * 1))[i]? = xs[i]? := by rw [htake]
      rw [List.getElem?_take, if_pos (by omega), Array.getElem?_toList] at this
      exact this
    · refine ⟨by rw [List.length_set]; exact hl, .inr ⟨g, cap, _, rfl, hb, block_set (h2.trans hg) u, hnc, hcm, by rw [Array.size_setIfInBounds]; exact hsz, ?_⟩⟩
      rw [Array.toList_setIfInBounds, ← htake, List.take_set]
theorem vals_set (xs : List Int) (i : Nat) (x : Int) : (vals xs).set i (.int .i64 x) = vals (xs.set i x) := by unfold vals; rw [List.map_set]
theorem vals_get (xs : List Int) (i : Nat) (h : i < xs.length) : (vals xs)[i]? = some (.int .i64 (xs.getD i 0)) := by
  unfold vals; rw [List.getElem?_map, List.getD_eq_getElem?_getD, List.getElem?_eq_getElem h]; rfl
def OwnI (w : World) (B : Nat) (v : Value) (xs : List Int) : Prop := w.ownsRow B 3 1 v xs.length (vals xs)
theorem OwnI.sl {w : World} {B : Nat} {v : Value} {xs : List Int} (h : OwnI w B v xs) :
    ∃ a c, v = .slice a xs.length c ∧ Ints w w.heap.size a xs.length xs ∧ xs.length ≤ maxLen ∧ (∀ g, a.map Addr.block = some g → B ≤ g ∧ g < w.heap.size ∧ v.ownBlock = some g ∧ ∃ cs, w.heap[g]? = some (.cells cs 3 (0, 0))) := own_ints h
theorem OwnI.upd {w w' : World} {B : Nat} {v : Value} {xs : List Int} (h : OwnI w B v xs) {R : Nat → Prop} (hu : Upd R w w') (hR : ∀ g, v.ownBlock = some g → ¬ R g) : OwnI w' B v xs := by
  obtain ⟨hl, h⟩ := h
  refine ⟨hl, ?_⟩
  rcases h with ⟨h1, h2⟩ | ⟨g, cap, cur, rfl, hb, hg, r⟩
  · exact .inl ⟨h1, h2⟩
  · exact .inr ⟨g, cap, cur, rfl, hb, (hu.block g (lt_of_block hg) (hR g rfl)).trans hg, r⟩
theorem OwnI.grow {w w' : World} {B : Nat} {v : Value} {xs : List Int} (h : OwnI w B v xs) (hu : Upd noBlock w w') : OwnI w' B v xs := h.upd hu fun _ _ h => h
theorem OwnI.more {w : World} {B B' : Nat} {v : Value} {xs : List Int} (h : OwnI w B v xs) (hB : B' ≤ B) : OwnI w B' v xs := by
  obtain ⟨hl, h⟩ := h
  refine ⟨hl, ?_⟩
  rcases h with ⟨h1, h2⟩ | ⟨g, cap, cur, rfl, hb, hg, r⟩
  · exact .inl ⟨h1, h2⟩
  · exact .inr ⟨g, cap, cur, rfl, Nat.le_trans hB hb, hg, r⟩
theorem OwnI.nil (w : World) (B : Nat) : OwnI w B (.slice none 0 0) [] := World.ownsRow_nil _ _ _ _
theorem OwnI.snoc {w : World} {B n : Nat} {v : Value} {xs : List Int} {x : Int} (hn : n = xs.length) (h : w.ownsRow B 3 1 v (n + 1) (vals xs ++ vals [x])) : OwnI w B v (xs ++ [x]) := by
  unfold OwnI
  have e : (xs ++ [x]).length = n + 1 := by simp [hn]
  have e2 : vals (xs ++ [x]) = vals xs ++ vals [x] := by simp [vals]
  rw [e, e2]; exact h
theorem OwnI.lt {w : World} {B : Nat} {v : Value} {xs : List Int} (h : OwnI w B v xs) : ∀ k, v.ownBlock = some k → B ≤ k := by
  intro k hk
  obtain ⟨_, h | ⟨g, cap, cur, rfl, hb, _⟩⟩ := h
  · rw [h.1] at hk; cases hk
  · cases hk; exact hb
theorem OwnI.cells {w : World} {B : Nat} {v : Value} {xs : List Int} (h : OwnI w B v xs) (h0 : 0 < xs.length) :
    ∃ g cap, v = .slice (some ⟨g, 0, none⟩) xs.length cap ∧ B ≤ g ∧ g < w.heap.size ∧ (∀ i, i < xs.length → w.cell? ⟨g, i, none⟩ = some (.int .i64 (xs.getD i 0))) ∧ (∀ i, w.frozen? ⟨g, i, none⟩ = false) ∧
      (∀ (w2 : World) i x, w2.heap[g]? = w.heap[g]? → OwnI (w2.setCell ⟨g, i, none⟩ (.int .i64 x)) B v (xs.set i x)) := by
  obtain ⟨g, cap, h1, h2, h3, h4, h5, h6⟩ := own_cells h h0
  refine ⟨g, cap, h1, h2, h3, fun i hi => by rw [h4 i hi, vals_get _ _ hi], h5, fun w2 i x h => ?_⟩
  have := h6 w2 i (.int .i64 x) h
  rw [vals_set] at this
  unfold OwnI
  rw [List.length_set]
  exact this
theorem bc_set (xs : List UInt8) (i : Nat) (x : UInt8) : (bc xs).set i (.int .u8 x.toNat) = bc (xs.set i x) := by unfold bc; rw [List.map_set]
theorem OwnB.cells {w : World} {B : Nat} {v : Value} {xs : List UInt8} (h : OwnB w B v xs) (h0 : 0 < xs.length) :
    ∃ g cap, v = .slice (some ⟨g, 0, none⟩) xs.length cap ∧ B ≤ g ∧ g < w.heap.size ∧ (∀ i, i < xs.length → w.cell? ⟨g, i, none⟩ = some (.int .u8 ((xs.getD i 0).toNat : Int))) ∧ (∀ i, w.frozen? ⟨g, i, none⟩ = false) ∧
      (∀ (w2 : World) i (x : UInt8), w2.heap[g]? = w.heap[g]? → OwnB (w2.setCell ⟨g, i, none⟩ (.int .u8 (x.toNat : Int))) B v (xs.set i x)) := by
  obtain ⟨g, cap, h1, h2, h3, h4, h5, h6⟩ := own_cells h h0
  refine ⟨g, cap, h1, h2, h3, fun i hi => by rw [h4 i hi, bc_get _ _ hi, List.getD_eq_getElem?_getD, List.getElem?_eq_getElem hi]; rfl, h5, fun w2 i x h => ?_⟩
  have := h6 w2 i (.int .u8 (x.toNat : Int)) h
  rw [bc_set] at this
  unfold OwnB
  rw [List.length_set]
  exact this
theorem OwnB.lt {w : World} {B : Nat} {v : Value} {xs : List UInt8} (h : OwnB w B v xs) : ∀ k, v.ownBlock = some k → B ≤ k := by
  intro k hk
  obtain ⟨_, h | ⟨g, cap, cur, rfl, hb, _⟩⟩ := h
  · rw [h.1] at hk; cases hk
  · cases hk; exact hb
theorem ints_one (w : World) (x : Int) : Ints (w.alloc (.cells #[.int .i64 x] 3)) (w.heap.size + 1) (some ⟨w.heap.size, 0, none⟩) 1 [x] :=
  ⟨rfl, fun _ => ⟨w.heap.size, 0, rfl, by omega, fun j hj => by
    obtain rfl : j = 0 := by omega
    rw [cell_of (heap_alloc_new w _)]; rfl⟩⟩
theorem intPartsI : ∃ i0, Tryz.prog.info? 3 = some i0 ∧ i0.zero = some (.int .i64 0) ∧ i0.size = 1 ∧ i0.bytes = 8 := by
  have intCells : (Tryz.prog.info? 3).map (fun i => (i.zero, i.size, i.bytes)) = some (some (.int .i64 0), 1, 8) := by kernel_rfl
  obtain ⟨i0, h1, h2⟩ := Option.map_eq_some_iff.1 intCells
  simp only [Prod.mk.injEq] at h2
  exact ⟨i0, h1, h2.1, h2.2.1, h2.2.2⟩
theorem bytePartsI : ∃ i0, Tryz.prog.info? 5 = some i0 ∧ i0.zero = some (.int .u8 0) ∧ i0.size = 1 ∧ i0.bytes = 1 := by
  have byteCells : (Tryz.prog.info? 5).map (fun i => (i.zero, i.size, i.bytes)) = some (some (.int .u8 0), 1, 1) := by kernel_rfl
  obtain ⟨i0, h1, h2⟩ := Option.map_eq_some_iff.1 byteCells
  simp only [Prod.mk.injEq] at h2
  exact ⟨i0, h1, h2.1, h2.2.1, h2.2.2⟩
end Go.Proofs.YtoledgpcgjdjjaaGreatDoor
