/- The reader in memory; add. -/
import Derived.Test.YthcjogigkagmdaaGreatDoorCoq
namespace Go.Proofs.YthcjogigkagmdaaGreatDoor
open Go.RowKit
set_option linter.unusedVariables false

section
variable {P : Program} {w : World}
theorem step_append_own {ops : Array Oper} {o : Oper} {a : Act} {K : Act → World → Prop} {Q : Exit → Act → World → Prop} {E : Prop} (hgd : o.guard = none) (s x : Operand) (t : TypeId)
    (ho : o.op = .call { callee := .builtin .append, args := #[s, x], argTypes := #[t, t] })
    (base : Nat) (e : TypeId) (i : TypeInfo) (z : Value) (size bytes : Nat) (ht : P.underlying t = some (.slice e)) (hi : P.info? e = some i) (hz : i.zero = some z)
    (hsize : i.size = size) (hby : i.bytes = bytes) (hzs : z.cells.size = size) (hsz : 0 < size)
    (v : Value) (n : Nat) (xs : List Value) (hs : a.eval s = v) (hown : w.ownsRow base e size v n xs)
    (ad : Addr) (m c : Nat) (news : List Value) (hx : a.eval x = .slice (some ad) m c) (hl : news.length = m * size) (hnews : ∀ j u, news[j]? = some u → w.cell? (ad.add j) = some u) (h1 : ∀ u ∈ news, u.oneCell' = true)
    (h63 : n + m ≤ maxLen) (hbytes : (n + m) * bytes ≤ 140737488355328) (hbase : base ≤ w.heap.size)
    (h : ∀ v' w', w'.ownsRow base e size v' (n + m) (xs ++ news) → w.grownBy w' v.ownBlock → K (a.put o.dst v') w') :
    if Region.wanted o (yielded ops a.tmps) = true then Oper.wp P o a w K Q else E := by
  have hw : Region.wanted o (yielded ops a.tmps) = true := by simp [Region.wanted, hgd]
  rw [if_pos hw]
  exact wp_append_own w s x t ho base e i z size bytes ht hi hz hsize hby hzs hsz v n xs hs hown ad m c news hx hl hnews h1 h63 hbytes hbase fun v' w' h2 h3 _ => h v' w' h2 h3
end
theorem own_sliceC {w : World} {B : Nat} {e : TypeId} {n m : Nat} {v : Value} {xs : List Value} (h : w.ownsRow B e n v m xs) : ∃ a c, v = .slice a m c := by
  rcases h.2 with ⟨rfl, rfl⟩ | ⟨g, cap, cur, rfl, _⟩
  · exact ⟨none, 0, rfl⟩
  · exact ⟨_, _, rfl⟩
/-- all from a block on -/
def above (rb B : Nat) : Nat → Prop := fun k => k = rb ∨ B ≤ k
def actsC (l : List Con.A6) : List Value := l.flatMap fun a => (actC a).toList
theorem actsC_snoc (l : List Con.A6) (a : Con.A6) : actsC (l ++ [a]) = actsC l ++ (actC a).toList := by simp [actsC]
/-- the reader: what was read so far, the number of the line -/
structure RdIn (w : World) (rb B : Nat) (s : Con.Scr) (n : Int) (v : Value) (g1 g2 g3 g4 g5 : Int) : Prop where
  head : w.heap[rb]? = some (.cells (rdC g1 g2 g3 g4 g5 v n) 66 (0, 0))
  nums : s.nums = [g1, g2, g3, g4, g5]
  acts : w.ownsRow B 64 6 v s.acts.length (actsC s.acts)
  base : 10 ≤ rb
theorem RdIn.grow {w w' : World} {rb B : Nat} {s : Con.Scr} {n : Int} {v : Value} {g1 g2 g3 g4 g5 : Int} (h : RdIn w rb B s n v g1 g2 g3 g4 g5) (hu : Upd noBlock w w') : RdIn w' rb B s n v g1 g2 g3 g4 g5 :=
  ⟨hu.cells h.head (fun h => h), h.nums, own_row_grow h.acts hu, h.base⟩
theorem rd_cells {w : World} {b : Nat} {g1 g2 g3 g4 g5 n : Int} {v : Value} (h : w.heap[b]? = some (.cells (rdC g1 g2 g3 g4 g5 v n) 66 (0, 0))) :
    (w.cell? ⟨b, 0, none⟩ = some (.int .i64 g1) ∧ w.cell? ⟨b, 1, none⟩ = some (.int .i64 g2) ∧ w.cell? ⟨b, 2, none⟩ = some (.int .i64 g3) ∧ w.cell? ⟨b, 3, none⟩ = some (.int .i64 g4) ∧ w.cell? ⟨b, 4, none⟩ = some (.int .i64 g5) ∧ w.cell? ⟨b, 5, none⟩ = some v ∧ w.cell? ⟨b, 6, none⟩ = some (.int .i64 n)) ∧
    (w.frozen? ⟨b, 0, none⟩ = false ∧ w.frozen? ⟨b, 1, none⟩ = false ∧ w.frozen? ⟨b, 2, none⟩ = false ∧ w.frozen? ⟨b, 3, none⟩ = false ∧ w.frozen? ⟨b, 4, none⟩ = false ∧ w.frozen? ⟨b, 5, none⟩ = false ∧ w.frozen? ⟨b, 6, none⟩ = false) :=
  ⟨⟨cell_of h 0, cell_of h 1, cell_of h 2, cell_of h 3, cell_of h 4, cell_of h 5, cell_of h 6⟩, free_of h 0, free_of h 1, free_of h 2, free_of h 3, free_of h 4, free_of h 5, free_of h 6⟩
theorem actParts : ∃ i0 z, Tryz.prog.info? 64 = some i0 ∧ i0.zero = some z ∧ i0.size = 6 ∧ i0.bytes = 72 ∧ z.cells.size = 6 := by
  have h : (Tryz.prog.info? 64).map (fun i => (i.zero.map (fun z => z.cells.size), i.size, i.bytes)) = some (some 6, 6, 72) := by kernel_rfl
  obtain ⟨i0, h1, h2⟩ := Option.map_eq_some_iff.1 h
  simp only [Prod.mk.injEq, Option.map_eq_some_iff] at h2
  obtain ⟨⟨z, hz, hz5⟩, h3, h4⟩ := h2
  exact ⟨i0, z, h1, hz, h3, h4, hz5⟩
def RdSome (w : World) (rb B : Nat) (s : Con.Scr) (n : Int) : Prop := ∃ v g1 g2 g3 g4 g5, RdIn w rb B s n v g1 g2 g3 g4 g5
/-- what add does -/
def AddP (rb B : Nat) (s : Con.Scr) (n : Int) (k : Nat) (F : List Con.Fd) (w : World) (e : Ending) (w' : World) : Prop :=
  ((∃ t, Con.addF s k F = some t ∧ e = .returned (.bool true) ∧ RdSome w' rb B t n ∧ t.acts.length ≤ s.acts.length + 1) ∨ (Con.addF s k F = none ∧ e = .returned (.bool false) ∧ RdSome w' rb B s n)) ∧ Upd (above rb B) w w'
set_option maxRecDepth 100000 in
set_option maxHeartbeats 1600000 in
theorem add_geo (rb B : Nat) (s : Con.Scr) (n : Int) (a : Option Addr) (m c : Nat) (F : List Con.Fd) (w : World) (hg : Gl w) (hr : RdSome w rb B s n) (hF : FdR w w.heap.size a m F) (hm : m ≤ 1048576) :
    Calls Tryz.prog 55 #[.pointer (some ⟨rb, 0, none⟩), .int .i64 0, .slice a m c] w (AddP rb B s n 0 F w) := by
  obtain ⟨v, g1, g2, g3, g4, g5, hR⟩ := hr
  have HGE := Lib.hid (geometryOf_any number_any a m c w.heap.size F w hg hF (Nat.le_refl _) (by omega))
  have hbase := hR.base
  have HR := Lib.hid hR
  have hrl := lt_of_block hR.head
  cases hge : Con.geoF F with
  | none =>
    have HGE2 : Hid (Calls Tryz.prog 67 #[.slice a m c] w fun e w' => e = .returned (.tuple #[.agg #[.int .i64 0, .int .i64 0, .int .i64 0, .int .i64 0, .int .i64 0], .bool false]) ∧ Upd noBlock w w') := HGE.out.mono fun e w' ⟨h, hu⟩ => by
      rcases h with ⟨x1, x2, x3, x4, x5, h1, _⟩ | ⟨_, h2⟩
      · rw [hge] at h1; cases h1
      · exact ⟨h2, hu⟩
    have HA : Hid (Con.addF s 0 F = none) := by show _ = _; unfold Con.addF; rw [if_pos rfl, hge]; rfl
    clear HGE hg hF hR
    go_enter Tryz.func55, Tryz.ntmps55
    go_wp2_with (go_at_call 67; (with_reducible refine HGE2.out.mono ?_); rintro e w1 ⟨rfl, hu⟩; have U1 := Lib.hid hu; clear hu)
    go_ret
    exact ⟨.inr ⟨HA.out, rfl, v, g1, g2, g3, g4, g5, HR.out.grow (U1.out.alloc _)⟩, (U1.out.alloc _).mono (fun _ _ h => h.elim)⟩
  | some g =>
    have hx : ∃ x1 x2 x3 x4 x5, g = [x1, x2, x3, x4, x5] := by
      unfold Con.geoF at hge
      split at hge
      · rename_i h5
        have h9 := (Con.nums_good F g hge).1
        rw [h5] at h9
        match g, h9 with
        | [x1, x2, x3, x4, x5], _ => exact ⟨x1, x2, x3, x4, x5, rfl⟩
      · cases hge
    obtain ⟨x1, x2, x3, x4, x5, rfl⟩ := hx
    have HGE2 : Hid (Calls Tryz.prog 67 #[.slice a m c] w fun e w' => e = .returned (.tuple #[.agg #[.int .i64 x1, .int .i64 x2, .int .i64 x3, .int .i64 x4, .int .i64 x5], .bool true]) ∧ Upd noBlock w w') := HGE.out.mono fun e w' ⟨h, hu⟩ => by
      rcases h with ⟨y1, y2, y3, y4, y5, h1, h2⟩ | ⟨h1, _⟩
      · rw [hge] at h1
        cases h1
        exact ⟨h2, hu⟩
      · rw [hge] at h1; cases h1
    have HA : Hid (Con.addF s 0 F = some { s with nums := [x1, x2, x3, x4, x5] }) := by show _ = _; unfold Con.addF; rw [if_pos rfl, hge]; rfl
    have HSET : Hid (∀ W, RdIn W rb B s n v g1 g2 g3 g4 g5 → W.heap[rb]? = some (.cells (rdC g1 g2 g3 g4 g5 v n) 66 (0, 0)) ∧
        (let W5 := ((((W.setCell ⟨rb, 0, none⟩ (.int .i64 x1)).setCell ⟨rb, 1, none⟩ (.int .i64 x2)).setCell ⟨rb, 2, none⟩ (.int .i64 x3)).setCell ⟨rb, 3, none⟩ (.int .i64 x4)).setCell ⟨rb, 4, none⟩ (.int .i64 x5)
         RdIn W5 rb B { s with nums := [x1, x2, x3, x4, x5] } n v x1 x2 x3 x4 x5 ∧ Upd (above rb B) W W5)) := fun W h => by
      have hu : ∀ (W : World) (i : Nat) (u : Value), Upd (above rb B) W (W.setCell ⟨rb, i, none⟩ u) := fun W i u => (Upd.refl (above rb B) W).setCell (p := ⟨rb, i, none⟩) (.inl (.inl rfl)) u
      have hk : ∀ (W : World) (i : Nat) (u : Value) (x : Value) (k : Nat) (xs : List Value) (cs : Array Value), W.heap[rb]? = some (.cells cs 66 (0, 0)) → W.ownsRow B 64 6 x k xs → (W.setCell ⟨rb, i, none⟩ u).ownsRow B 64 6 x k xs := fun W i u x k xs cs hh ho => by
        obtain ⟨hl, ho⟩ := ho
        refine ⟨hl, ?_⟩
        rcases ho with ⟨h1, h2⟩ | ⟨g, cap, cur, rfl, hb, hgg, r⟩
        · exact .inl ⟨h1, h2⟩
        · refine .inr ⟨g, cap, cur, rfl, hb, block_set_other hgg ?_ _, r⟩
          rintro rfl
          rw [hh] at hgg
          cases hgg
      have c0 := h.head
      have c1 := block_set (i := 0) c0 (.int .i64 x1)
      have c2 := block_set (i := 1) c1 (.int .i64 x2)
      have c3 := block_set (i := 2) c2 (.int .i64 x3)
      have c4 := block_set (i := 3) c3 (.int .i64 x4)
      have c5 := block_set (i := 4) c4 (.int .i64 x5)
      exact ⟨c0, ⟨c5, rfl, hk _ _ _ _ _ _ _ c4 (hk _ _ _ _ _ _ _ c3 (hk _ _ _ _ _ _ _ c2 (hk _ _ _ _ _ _ _ c1 (hk _ _ _ _ _ _ _ c0 h.acts)))), h.base⟩, ((((hu _ _ _).trans (hu _ _ _)).trans (hu _ _ _)).trans (hu _ _ _)).trans (hu _ _ _)⟩
    clear HGE hg hF hR hge
    go_enter Tryz.func55, Tryz.ntmps55
    go_wp2_with (go_at_call 67; (with_reducible refine HGE2.out.mono ?_); rintro e w1 ⟨rfl, hu⟩; have U1 := Lib.hid hu; have hrl1 : rb < w1.heap.size := Nat.lt_of_lt_of_le hrl hu.size; have hrl2 : ¬ rb = w1.heap.size := Nat.ne_of_lt hrl1; have hS := HSET.out _ (HR.out.grow U1.out); have HS2 := Lib.hid hS.2; obtain ⟨⟨d0, d1, d2, d3, d4, d5, d6⟩, e0, e1, e2, e3, e4, e5, e6⟩ := rd_cells hS.1; clear hu hS)
    go_ret
    exact ⟨.inl ⟨_, HA.out, rfl, ⟨_, _, _, _, _, _, HS2.out.1.grow ((Upd.refl _ _).alloc _)⟩, Nat.le_succ _⟩, ((Upd.mono (R' := above rb B) U1.out (fun _ _ h => h.elim)).trans HS2.out.2).alloc _⟩
set_option maxRecDepth 100000 in
set_option maxHeartbeats 1600000 in
theorem add_act (rb B : Nat) (s : Con.Scr) (n : Int) (k : Nat) (hk0 : k ≠ 0) (hk : k < 23) (ad : Option Addr) (m c : Nat) (F : List Con.Fd) (w : World) (hg : Gl w) (hr : RdSome w rb B s n) (hF : FdR w w.heap.size ad m F) (hm : m ≤ 1048576) (hs : s.acts.length ≤ 1048576) (hBw : B ≤ w.heap.size) :
    Calls Tryz.prog 55 #[.pointer (some ⟨rb, 0, none⟩), .int .i64 (k : Int), .slice ad m c] w (AddP rb B s n k F w) := by
  obtain ⟨v, g1, g2, g3, g4, g5, hR⟩ := hr
  obtain ⟨i0, zz0, hi0, hz0, hz1, hz2, hz3⟩ := actParts
  have HGE := Lib.hid (actOf_any number_any k hk ad m c w.heap.size F w hg hF (Nat.le_refl _) (by omega))
  have hbase := hR.base
  have HR := Lib.hid hR
  have hrl := lt_of_block hR.head
  have ek : ((k : Int) == 0) = false := by rw [beq_eq_false_iff_ne]; omega
  cases hge : Con.actF k F with
  | none =>
    have HGE2 : Hid (Calls Tryz.prog 68 #[.int .i64 (k : Int), .slice ad m c] w fun e w' => e = .returned (.tuple #[.agg #[.int .i64 0, .string ⟨#[]⟩, .string ⟨#[]⟩, .string ⟨#[]⟩, .int .i64 0, .int .i64 0], .bool false]) ∧ Upd noBlock w w') := HGE.out.mono fun e w' ⟨h, hu⟩ => by
      rcases h with ⟨a, h1, _⟩ | ⟨_, h2⟩
      · rw [hge] at h1; cases h1
      · exact ⟨h2, hu⟩
    have HA : Hid (Con.addF s k F = none) := by show _ = _; unfold Con.addF; rw [if_neg hk0, hge]; rfl
    clear HGE hg hF hR hge
    go_enter Tryz.func55, Tryz.ntmps55
    go_wp2_with (go_at_call 68; (with_reducible refine HGE2.out.mono ?_); rintro e w1 ⟨rfl, hu⟩; have U1 := Lib.hid hu; clear hu)
    go_ret
    exact ⟨.inr ⟨HA.out, rfl, v, g1, g2, g3, g4, g5, HR.out.grow (U1.out.alloc _)⟩, (U1.out.alloc _).mono (fun _ _ h => h.elim)⟩
  | some a =>
    have HGE2 : Hid (Calls Tryz.prog 68 #[.int .i64 (k : Int), .slice ad m c] w fun e w' => e = .returned (.tuple #[.agg #[.int .i64 a.kind, .string a.path, .string a.dest, .string a.data, .int .i64 a.off, .int .i64 a.size], .bool true]) ∧ Upd noBlock w w') := HGE.out.mono fun e w' ⟨h, hu⟩ => by
      rcases h with ⟨a', h1, h2⟩ | ⟨h1, _⟩
      · rw [hge] at h1; cases h1; exact ⟨h2, hu⟩
      · rw [hge] at h1; cases h1
    have HA : Hid (Con.addF s k F = some { s with acts := s.acts ++ [a] }) := by show _ = _; unfold Con.addF; rw [if_neg hk0, hge]; rfl
    have HB1 : Hid (s.acts.length + 1 ≤ maxLen ∧ (s.acts.length + 1) * 72 ≤ 140737488355328) := by show _ ∧ _; unfold maxLen; omega
    have HO5 : Hid (∀ u ∈ [Value.int .i64 a.kind, .string a.path, .string a.dest, .string a.data, .int .i64 a.off, .int .i64 a.size], u.oneCell' = true) := by
      intro u hu
      simp only [List.mem_cons, List.not_mem_nil, or_false] at hu
      rcases hu with rfl | rfl | rfl | rfl | rfl | rfl <;> rfl
    have HBW := Lib.hid hBw
    clear HGE hg hF hR hge
    go_enter Tryz.func55, Tryz.ntmps55
    go_wp2_with (go_at_call 68; (with_reducible refine HGE2.out.mono ?_); rintro e w1 ⟨rfl, hu⟩; have U1 := Lib.hid hu; have hrl1 : rb < w1.heap.size := Nat.lt_of_lt_of_le hrl hu.size; have hrl2 : ¬ rb = w1.heap.size := Nat.ne_of_lt hrl1; obtain ⟨⟨_, _, _, _, _, d5, _⟩, _, _, _, _, _, e5, _⟩ := rd_cells (HR.out.grow hu).head; clear hu)
    have R1 := Lib.hid (HR.out.grow U1.out)
    have HW2 : Hid (Upd noBlock w1 ((w1.alloc (.cells #[.int .i64 a.kind, .string a.path, .string a.dest, .string a.data, .int .i64 a.off, .int .i64 a.size] 64)).alloc (.cells #[.int .i64 a.kind, .string a.path, .string a.dest, .string a.data, .int .i64 a.off, .int .i64 a.size] 64)).drew) := (((Upd.refl noBlock w1).alloc _).alloc _).drew
    have HV : Hid (((w1.alloc (.cells #[.int .i64 a.kind, .string a.path, .string a.dest, .string a.data, .int .i64 a.off, .int .i64 a.size] 64)).alloc (.cells #[.int .i64 a.kind, .string a.path, .string a.dest, .string a.data, .int .i64 a.off, .int .i64 a.size] 64)).drew.ownsRow B 64 6 v s.acts.length (actsC s.acts)) := own_row_grow R1.out.acts HW2.out
    have HC2 : Hid (∀ j u, [Value.int .i64 a.kind, .string a.path, .string a.dest, .string a.data, .int .i64 a.off, .int .i64 a.size][j]? = some u → ((w1.alloc (.cells #[.int .i64 a.kind, .string a.path, .string a.dest, .string a.data, .int .i64 a.off, .int .i64 a.size] 64)).alloc (.cells #[.int .i64 a.kind, .string a.path, .string a.dest, .string a.data, .int .i64 a.off, .int .i64 a.size] 64)).drew.cell? ((⟨w1.heap.size + 1, 0, none⟩ : Addr).add j) = some u) := fun j u hu => by
      have h9 := heap_alloc_new (w1.alloc (.cells #[.int .i64 a.kind, .string a.path, .string a.dest, .string a.data, .int .i64 a.off, .int .i64 a.size] 64)) (.cells #[.int .i64 a.kind, .string a.path, .string a.dest, .string a.data, .int .i64 a.off, .int .i64 a.size] 64)
      rw [World.size_alloc] at h9
      have h8 : ((w1.alloc (.cells #[.int .i64 a.kind, .string a.path, .string a.dest, .string a.data, .int .i64 a.off, .int .i64 a.size] 64)).alloc (.cells #[.int .i64 a.kind, .string a.path, .string a.dest, .string a.data, .int .i64 a.off, .int .i64 a.size] 64)).drew.cell? ⟨w1.heap.size + 1, j, none⟩ = ((w1.alloc (.cells #[.int .i64 a.kind, .string a.path, .string a.dest, .string a.data, .int .i64 a.off, .int .i64 a.size] 64)).alloc (.cells #[.int .i64 a.kind, .string a.path, .string a.dest, .string a.data, .int .i64 a.off, .int .i64 a.size] 64)).cell? ⟨w1.heap.size + 1, j, none⟩ := rfl
      rw [add_zero_addr, h8, cell_of h9 j, ← hu]; simp
    have HBz : Hid (B ≤ ((w1.alloc (.cells #[.int .i64 a.kind, .string a.path, .string a.dest, .string a.data, .int .i64 a.off, .int .i64 a.size] 64)).alloc (.cells #[.int .i64 a.kind, .string a.path, .string a.dest, .string a.data, .int .i64 a.off, .int .i64 a.size] 64)).drew.heap.size) := Nat.le_trans HBW.out (U1.out.trans HW2.out).size
    have HNF : Hid (∀ v2 w2, w2.ownsRow B 64 6 v2 (s.acts.length + 1) (actsC s.acts ++ [.int .i64 a.kind, .string a.path, .string a.dest, .string a.data, .int .i64 a.off, .int .i64 a.size]) → ((w1.alloc (.cells #[.int .i64 a.kind, .string a.path, .string a.dest, .string a.data, .int .i64 a.off, .int .i64 a.size] 64)).alloc (.cells #[.int .i64 a.kind, .string a.path, .string a.dest, .string a.data, .int .i64 a.off, .int .i64 a.size] 64)).drew.grownBy w2 v.ownBlock →
        w2.heap[rb]? = some (.cells (rdC g1 g2 g3 g4 g5 v n) 66 (0, 0)) ∧ RdIn (w2.setCell ⟨rb, 5, none⟩ v2) rb B { s with acts := s.acts ++ [a] } n v2 g1 g2 g3 g4 g5 ∧ Upd (above rb B) w (w2.setCell ⟨rb, 5, none⟩ v2)) := fun v2 w2 hO hg => by
      have hb2 : w2.heap[rb]? = some (.cells (rdC g1 g2 g3 g4 g5 v n) 66 (0, 0)) := by
        have h9 := (R1.out.grow HW2.out).head
        refine (hg.block rb (lt_of_block h9) (fun e1 => ?_)).trans h9
        obtain ⟨_, C, hC⟩ := own_row_base HV.out rb e1.symm
        rw [hC] at h9
        cases h9
      refine ⟨hb2, ⟨block_set (i := 5) hb2 v2, R1.out.nums, ?_, hbase⟩, ?_⟩
      · show (w2.setCell ⟨rb, 5, none⟩ v2).ownsRow B 64 6 v2 (s.acts ++ [a]).length (actsC (s.acts ++ [a]))
        rw [actsC_snoc, List.length_append, List.length_singleton]
        obtain ⟨hl, ho⟩ := hO
        refine ⟨hl, ?_⟩
        rcases ho with ⟨h1, h2⟩ | ⟨g, cap, cur, rfl, hb, hgg, r⟩
        · exact .inl ⟨h1, h2⟩
        · refine .inr ⟨g, cap, cur, rfl, hb, block_set_other hgg ?_ _, r⟩
          rintro rfl
          rw [hb2] at hgg
          cases hgg
      · refine ((Upd.mono (R' := above rb B) (U1.out.trans HW2.out) (fun _ _ h => h.elim)).trans ?_).setCell (p := ⟨rb, 5, none⟩) (.inl (.inl rfl)) v2
        exact ⟨hg.os, hg.tape, hg.output, hg.size, fun k hk hn => hg.block k hk (fun e => hn (.inr (own_row_base HV.out k e.symm).1))⟩
    go_region_law (refine step_append_own rfl (.tmp 37) (.tmp 39) 25 rfl B 64 i0 zz0 6 72 Tryz.underlying25 hi0 hz0 hz1 hz2 hz3 (by decide) v s.acts.length (actsC s.acts) rfl HV.out ⟨w1.heap.size + 1, 0, none⟩ 1 1 [.int .i64 a.kind, .string a.path, .string a.dest, .string a.data, .int .i64 a.off, .int .i64 a.size] rfl rfl HC2.out HO5.out HB1.out.1 HB1.out.2 HBz.out ?_; intro v2 w2 hO hg; obtain ⟨a2, c2, hv2⟩ := own_sliceC hO; subst hv2; have HN := Lib.hid (HNF.out _ _ hO hg); clear hO hg; obtain ⟨⟨_, _, _, _, _, k5, _⟩, _, _, _, _, _, l5, _⟩ := rd_cells HN.out.1)
    all_goals
      go_wp2_with fail
      go_ret
      exact ⟨.inl ⟨_, HA.out, rfl, ⟨_, _, _, _, _, _, HN.out.2.1⟩, by show (s.acts ++ [a]).length ≤ _; simp⟩, HN.out.2.2⟩
end Go.Proofs.YthcjogigkagmdaaGreatDoor
