/- Slices of bytes of the call's own, nil too: what is appended may be a text's bytes or a slice's; back to a text. -/
import Derived.Test.YthcjogigkagmdaaGreatDoorBy
import Derived.Test.YthcjogigkagmdaaGreatDoorRows
import Derived.WalkKit
import Derived.Lib.Hide
import Derived.Maps.AppendAt
import Derived.Laws.IdiomCopy
import Derived.Deep.AppendLies
import Derived.Laws.BytesArg
import Derived.RegionTactic
import Derived.Deep.RegionLaw
import Derived.BigRegion
namespace Go.Proofs.YthcjogigkagmdaaGreatDoor
open Go.RowKit

/-- a run of stores into one block, whole -/
theorem setCells_blockZ (g : Nat) (e : TypeId) (z : Nat × Nat) : ∀ (vs : List Value) (n : Nat) (w : World) (cur : Array Value), w.heap[g]? = some (.cells cur e z) → n + vs.length ≤ cur.size →
    (w.setCells g n vs).heap[g]? = some (.cells (cur.toList.take n ++ vs ++ cur.toList.drop (n + vs.length)).toArray e z)
  | [], n, w, cur, hg, _ => by
    have : (cur.toList.take n ++ [] ++ cur.toList.drop (n + 0)).toArray = cur := by simp
    simp only [List.length_nil]
    rw [this]; exact hg
  | x :: vs, n, w, cur, hg, hn => by
    simp only [List.length_cons] at hn
    have h := setCells_blockZ g e z vs (n + 1) (w.setCell ⟨g, n, none⟩ x) _ (block_set hg x) (by rw [Array.size_setIfInBounds]; omega)
    show ((w.setCell ⟨g, n, none⟩ x).setCells g (n + 1) vs).heap[g]? = _
    rw [h]
    have hlt : n < cur.toList.length := by show n < cur.size; omega
    have e1 : (cur.setIfInBounds n x).toList = cur.toList.set n x := by simp
    have e2 : (cur.toList.set n x).take (n + 1) = cur.toList.take n ++ [x] := by
      rw [List.take_add_one, List.take_set_of_le (Nat.le_refl _), List.getElem?_set_self hlt]
      rfl
    have e3 : (cur.toList.set n x).drop (n + 1 + vs.length) = cur.toList.drop (n + (vs.length + 1)) := by
      rw [List.drop_set_of_lt (by omega), show n + 1 + vs.length = n + (vs.length + 1) by omega]
    rw [e1, e2, e3]
    simp [List.append_assoc]
theorem setCells_upd (g : Nat) : ∀ (vs : List Value) (n : Nat) (w : World), (w.setCells g n vs).heap.size = w.heap.size ∧ (∀ k, k ≠ g → (w.setCells g n vs).heap[k]? = w.heap[k]?) ∧ (w.setCells g n vs).os = w.os ∧ (w.setCells g n vs).tape = w.tape ∧ (w.setCells g n vs).output = w.output
  | [], _, _ => ⟨rfl, fun _ _ => rfl, rfl, rfl, rfl⟩
  | x :: vs, n, w => by
    obtain ⟨h1, h2, h3, h4, h5⟩ := setCells_upd g vs (n + 1) (w.setCell ⟨g, n, none⟩ x)
    exact ⟨h1.trans (by simp [World.setCell]), fun k hk => (h2 k hk).trans (Below.heap_setCell w ⟨g, n, none⟩ x k hk), h3, h4, h5⟩
section
variable {P : Program} (w : World)
theorem run_append_own_src (base : Nat) (t tx ty e : TypeId) (i : TypeInfo) (z : Value) (bytes : Nat) (ht : P.underlying t = some (.slice e)) (hi : P.info? e = some i) (hz : i.zero = some z)
    (hsize : i.size = 1) (hby : i.bytes = bytes) (hzs : z.cells.size = 1)
    (v : Value) (n : Nat) (xs : List Value) (hown : w.ownsRow base e 1 v n xs)
    (x : Value) (m : Nat) (news : List Value) (hs : Src P 1 tx x m news w) (hm : 0 < m)
    (h63 : n + m ≤ maxLen) (hbytes : (n + m) * bytes ≤ 140737488355328) (hbase : base ≤ w.heap.size) :
    ∃ v' w', (Builtin.append_ #[t, tx] ty #[v, x]).run P w = .ok v' w' ∧ w'.ownsRow base e 1 v' (n + m) (xs ++ news) ∧ w.grownBy w' v.ownBlock ∧
      (v'.ownBlock = v.ownBlock ∨ v'.ownBlock = some w.heap.size) := by
  subst hby
  have hl : news.length = m := by rw [hs.newsLen, Nat.mul_one]
  have hs' : Src P i.size tx x m news w := by rw [hsize]; exact hs
  have hsmall : n + m ≤ 9223372036854775807 := by simp only [maxLen] at h63; omega
  have hlen : (xs ++ news).length = (n + m) * 1 := by rw [List.length_append, hown.1, hl]; omega
  have grown : ∀ (old : Nat), old < n + m → ∀ (row : Option Nat),
      (w.drew.alloc (.cells ((xs ++ news).toArray ++ Builtin.zeroCells z.cells (grownCap w (n + m) old e - (n + m))) e)).ownsRow base e 1
        (.slice (some ⟨w.heap.size, 0, none⟩) (n + m) (grownCap w (n + m) old e)) (n + m) (xs ++ news) ∧
      w.grownBy (w.drew.alloc (.cells ((xs ++ news).toArray ++ Builtin.zeroCells z.cells (grownCap w (n + m) old e - (n + m))) e)) row := by
    intro old ho row
    have hge := grownCap_ge w (n + m) old e
    have hcm : grownCap w (n + m) old e ≤ maxLen := grownCap_le_maxLen w (n + m) old e h63
    refine ⟨⟨hlen, .inr ⟨w.heap.size, _, _, rfl, hbase, heap_alloc_new w.drew _, hge, hcm, ?_, ?_⟩⟩, ⟨rfl, rfl, rfl, by simp, fun k hk _ => Below.heap_alloc w.drew _ k hk⟩⟩
    · simp only [Array.size_append, List.size_toArray, size_zeroCells, hzs, hlen]
      omega
    · simp only [Array.toList_append]
      rw [← hlen]
      exact List.take_left
  rcases hown.2 with ⟨rfl, rfl⟩ | ⟨g, cap, cur, rfl, hbg, hg, hnc, hcm, hcs, htake⟩
  · have hx : xs = [] := List.eq_nil_of_length_eq_zero (by simpa using hown.1)
    subst hx
    have hold : (Builtin.firstCells i.size 0 (.slice none 0 0)).run P w.drew = .ok ([] : List Value).toArray w.drew := run_firstCells_none w.drew i.size 0 0 0
    have hr := run_append_grow_src (P := P) w t tx ty e i z ht hi hz none 0 0 [] hold x m news hs' (by omega) (by omega) (growslice_fits (by omega) hbytes)
    have hgr := grown 0 (by omega) (Value.ownBlock (.slice none 0 0))
    exact ⟨_, _, hr, hgr.1, hgr.2, .inr rfl⟩
  · by_cases hroom : n + m ≤ cap
    · have hfit : n + news.length ≤ cur.size := by rw [hl, hcs]; omega
      have hr := run_append_room_src (P := P) w t tx ty e i ht hi g 0 n cap x m news hs' hroom (fun j hj => by
        rw [hsize, Nat.mul_one, Nat.zero_add, cell_of hg, Array.getElem?_eq_getElem (by omega)]; rfl) (fun j hj => free_of hg _)
      rw [hsize, Nat.zero_add, Nat.mul_one] at hr
      have hset := setCells_blockZ g e (0, 0) news n w cur hg hfit
      obtain ⟨s1, s2, s3, s4, s5⟩ := setCells_upd g news n w
      refine ⟨_, _, hr, ⟨hlen, .inr ⟨g, cap, _, rfl, hbg, hset, hroom, hcm, ?_, ?_⟩⟩, ⟨s3, s4, s5, Nat.le_of_eq s1.symm, fun k _ hk => s2 k (fun e => hk (by simp [Value.ownBlock, e]))⟩, .inl rfl⟩
      · simp only [List.size_toArray, List.length_append, List.length_take, List.length_drop, Array.length_toList]
        omega
      · have hx : cur.toList.take n = xs := by rw [← htake, Nat.mul_one]
        rw [hx, ← hlen]
        exact List.take_left
    · have holds : ∀ j u, xs[j]? = some u → w.cell? ((⟨g, 0, none⟩ : Addr).add j) = some u := hown.cells (g := g) rfl
      have hold : (Builtin.firstCells i.size n (.slice (some ⟨g, 0, none⟩) n cap)).run P w.drew = .ok xs.toArray w.drew :=
        run_firstCells_some w.drew i.size n ⟨g, 0, none⟩ n cap xs (by rw [hown.1, hsize]) (by simpa using holds)
      have hr := run_append_grow_src (P := P) w t tx ty e i z ht hi hz (some ⟨g, 0, none⟩) n cap xs hold x m news hs' (by omega) (by omega) (growslice_fits (by omega) hbytes)
      have hgr := grown cap (by omega) (Value.ownBlock (.slice (some ⟨g, 0, none⟩) n cap))
      exact ⟨_, _, hr, hgr.1, hgr.2, .inr rfl⟩
theorem wpList_append_src {ops : Array Oper} {rest : List Oper} {o : Oper} {a : Act} {Q : Exit → Act → World → Prop} (hgd : o.guard = none) (s xo : Operand) (t tx : TypeId)
    (ho : o.op = .call { callee := .builtin .append, args := #[s, xo], argTypes := #[t, tx] })
    (base : Nat) (e : TypeId) (i : TypeInfo) (z : Value) (bytes : Nat) (ht : P.underlying t = some (.slice e)) (hi : P.info? e = some i) (hz : i.zero = some z)
    (hsize : i.size = 1) (hby : i.bytes = bytes) (hzs : z.cells.size = 1)
    (v : Value) (n : Nat) (xs : List Value) (hse : a.eval s = v) (hown : w.ownsRow base e 1 v n xs)
    (x : Value) (m : Nat) (news : List Value) (hxe : a.eval xo = x) (hs : Src P 1 tx x m news w) (hm : 0 < m)
    (h63 : n + m ≤ maxLen) (hbytes : (n + m) * bytes ≤ 140737488355328) (hbase : base ≤ w.heap.size)
    (h : ∀ v' w', w'.ownsRow base e 1 v' (n + m) (xs ++ news) → w.grownBy w' v.ownBlock → (v'.ownBlock = v.ownBlock ∨ v'.ownBlock = some w.heap.size) → wpList P ops Q rest (a.put o.dst v') w') : wpList P ops Q (o :: rest) a w :=
  wpList_plain hgd fun _ hK => by
    obtain ⟨v', w', hrun, h2, h3, h4⟩ := run_append_own_src (P := P) w base t tx o.type e i z bytes ht hi hz hsize hby hzs v n xs hown x m news hs hm h63 hbytes hbase
    unfold Oper.wp execOp
    simp only [ho, resolve, invoke, builtin, Sem.run_bind, Sem.run_pure, Result.andThen_ok, List.map_toArray, List.map_cons, List.map_nil, hse, hxe, hrun]
    exact hK _ _ (h v' w' h2 h3 h4)
/-- the same as a step of a region that draws -/
theorem step_append_src {ops : Array Oper} {o : Oper} {a : Act} {w : World} {K : Act → World → Prop} {Q : Exit → Act → World → Prop} {E : Prop}
    (hgd : o.guard = none) (s xo : Operand) (t tx : TypeId) (ho : o.op = .call { callee := .builtin .append, args := #[s, xo], argTypes := #[t, tx] })
    (base : Nat) (e : TypeId) (i : TypeInfo) (z : Value) (bytes : Nat) (ht : P.underlying t = some (.slice e)) (hi : P.info? e = some i) (hz : i.zero = some z)
    (hsize : i.size = 1) (hby : i.bytes = bytes) (hzs : z.cells.size = 1)
    (v : Value) (n : Nat) (xs : List Value) (hse : a.eval s = v) (hown : w.ownsRow base e 1 v n xs)
    (x : Value) (m : Nat) (news : List Value) (hxe : a.eval xo = x) (hs : Src P 1 tx x m news w) (hm : 0 < m)
    (h63 : n + m ≤ maxLen) (hbytes : (n + m) * bytes ≤ 140737488355328) (hbase : base ≤ w.heap.size)
    (h : ∀ v' w', w'.ownsRow base e 1 v' (n + m) (xs ++ news) → w.grownBy w' v.ownBlock → (v'.ownBlock = v.ownBlock ∨ v'.ownBlock = some w.heap.size) → K (a.put o.dst v') w') :
    if Region.wanted o (yielded ops a.tmps) = true then Oper.wp P o a w K Q else E := by
  have hw : Region.wanted o (yielded ops a.tmps) = true := by simp [Region.wanted, hgd]
  rw [if_pos hw]
  obtain ⟨v', w', hrun, h2, h3, h4⟩ := run_append_own_src (P := P) w base t tx o.type e i z bytes ht hi hz hsize hby hzs v n xs hown x m news hs hm h63 hbytes hbase
  unfold Oper.wp execOp
  simp only [ho, resolve, invoke, builtin, Sem.run_bind, Sem.run_pure, Result.andThen_ok, List.map_toArray, List.map_cons, List.map_nil, hse, hxe, hrun]
  exact h v' w' h2 h3 h4
end

/-- the cells of bytes -/
def bc (l : List UInt8) : List Value := l.map fun b => Value.int .u8 b.toNat
theorem bc_append (a b : List UInt8) : bc (a ++ b) = bc a ++ bc b := List.map_append
theorem bc_length (a : List UInt8) : (bc a).length = a.length := List.length_map _
theorem bc_get (l : List UInt8) (j : Nat) (h : j < l.length) : (bc l)[j]? = some (.int .u8 (l[j].toNat : Int)) := by
  unfold bc; rw [List.getElem?_map, List.getElem?_eq_getElem h]; rfl
theorem bc_one (l : List UInt8) : ∀ u ∈ bc l, u.oneCell' = true := by
  intro u hu
  obtain ⟨_, _, rfl⟩ := List.mem_map.1 hu
  rfl
/-- a slice of bytes of the call's own, nil too -/
def OwnB (w : World) (B : Nat) (v : Value) (l : List UInt8) : Prop := w.ownsRow B 5 1 v l.length (bc l)
theorem OwnB.upd {w w' : World} {B : Nat} {v : Value} {l : List UInt8} (h : OwnB w B v l) {R : Nat → Prop} (hu : Upd R w w') (hR : ∀ g, v.ownBlock = some g → ¬ R g) : OwnB w' B v l := by
  obtain ⟨hl, h⟩ := h
  refine ⟨hl, ?_⟩
  rcases h with ⟨h1, h2⟩ | ⟨g, cap, cur, rfl, hb, hg, r⟩
  · exact .inl ⟨h1, h2⟩
  · exact .inr ⟨g, cap, cur, rfl, hb, (hu.block g (lt_of_block hg) (hR g rfl)).trans hg, r⟩
theorem OwnB.grow {w w' : World} {B : Nat} {v : Value} {l : List UInt8} (h : OwnB w B v l) (hu : Upd noBlock w w') : OwnB w' B v l := h.upd hu fun _ _ h => h
theorem OwnB.nil (w : World) (B : Nat) : OwnB w B (.slice none 0 0) [] := World.ownsRow_nil _ _ _ _
theorem OwnB.join {w : World} {B : Nat} {v : Value} {l : List UInt8} {m : Nat} {news : List Value} {k : List UInt8} (hn : news = bc k) (hm : m = k.length) (h : w.ownsRow B 5 1 v (l.length + m) (bc l ++ news)) : OwnB w B v (l ++ k) := by
  unfold OwnB; subst hn; subst hm
  rw [List.length_append, bc_append]; exact h
theorem OwnB.cell {w : World} {B : Nat} {v : Value} {l : List UInt8} (h : OwnB w B v l) (h0 : 0 < l.length) :
    ∃ g cap, v = .slice (some ⟨g, 0, none⟩) l.length cap ∧ B ≤ g ∧ g < w.heap.size ∧ ∀ j (h : j < l.length), w.cell? ⟨g, j, none⟩ = some (.int .u8 (l[j].toNat : Int)) := by
  obtain ⟨g, cap, rfl, hB, hg⟩ := World.ownsRow.form h h0
  refine ⟨g, cap, rfl, hB, hg, fun j hj => ?_⟩
  have := World.ownsRow.cells (g := g) h rfl j _ (bc_get l j hj)
  rwa [add_zero_addr] at this
theorem OwnB.slice {w : World} {B : Nat} {v : Value} {l : List UInt8} (h : OwnB w B v l) : ∃ a cap, v = .slice a l.length cap := by
  rcases h.2 with ⟨h1, h2⟩ | ⟨g, cap, cur, h1, _⟩
  · exact ⟨none, 0, by rw [h2, h1]⟩
  · exact ⟨_, _, h1⟩
theorem OwnB.bound {w : World} {B : Nat} {v : Value} {l : List UInt8} (h : OwnB w B v l) : l.length ≤ maxLen := by
  rcases h.2 with ⟨_, h2⟩ | ⟨g, cap, cur, _, _, _, h1, h2, _⟩
  · rw [h2]; exact Nat.zero_le _
  · exact Nat.le_trans h1 h2
theorem OwnB.text {w : World} {B : Nat} {v : Value} {l : List UInt8} (h : OwnB w B v l) : (convert 62 9 v).run Tryz.prog w = .ok (.string ⟨l.toArray⟩) w := by
  rcases h.2 with ⟨rfl, h2⟩ | ⟨g, cap, cur, rfl, _⟩
  · obtain rfl : l = [] := List.eq_nil_of_length_eq_zero h2
    exact run_convert_bytes_nil (w := w) 62 5 Tryz.underlying62 Tryz.underlying5 0 0 9 Tryz.underlying9
  · exact run_convert_bytes_back w 62 9 5 ⟨g, 0, none⟩ cap l Tryz.underlying62 Tryz.underlying5 Tryz.underlying9 (fun j hj => World.ownsRow.cells (g := g) h rfl j _ (bc_get l j hj))
theorem upd_of_grown {R : Nat → Prop} {a w w' : World} {row : Option Nat} (h : Upd R a w) (hg : w.grownBy w' row) (hr : ∀ k, row = some k → R k ∨ a.heap.size ≤ k) : Upd R a w' :=
  ⟨hg.os.trans h.os, hg.tape.trans h.tape, hg.output.trans h.output, Nat.le_trans h.size hg.size, fun k hk hn => (hg.block k (Nat.lt_of_lt_of_le hk h.size) (fun e => by
    rcases hr k e.symm with h1 | h1
    · exact hn h1
    · omega)).trans (h.block k hk hn)⟩
theorem byteInfoB : (Tryz.prog.info? 5).map (fun i => (i.zero, i.size, i.bytes)) = some (some (.int .u8 0), 1, 1) := by kernel_rfl
end Go.Proofs.YthcjogigkagmdaaGreatDoor
