/- Noise: all pieces of what is read. -/
import Derived.Test.YtoledgpcgjdjjaaGreatDoorQGNs
import Derived.RangeFuncWrites
namespace Go.Proofs.YtoledgpcgjdjjaaGreatDoor
open Go.RowKit
attribute [local go_sem] Oper.semAt_some

section
variable (T : Nat → Nat → (Nat → Nat) → Nat → Nat)
def foldT (f : Nat → Nat) (l : List Nat) : (Nat → Nat) × Nat := l.foldl (fun s x => (T x s.2 s.1, s.2 + 1)) (f, 0)
theorem foldT_snoc (f : Nat → Nat) (l : List Nat) (x : Nat) : foldT T f (l ++ [x]) = (T x (foldT T f l).2 (foldT T f l).1, (foldT T f l).2 + 1) := by
  unfold foldT; rw [List.foldl_append]; rfl
theorem foldT_snd (f : Nat → Nat) (l : List Nat) : (foldT T f l).2 = l.length := by
  unfold foldT
  suffices h : ∀ (l : List Nat) (s : (Nat → Nat) × Nat), (l.foldl (fun s x => (T x s.2 s.1, s.2 + 1)) s).2 = s.2 + l.length by
    rw [h l (f, 0)]; simp
  intro l
  induction l with
  | nil => intro s; rfl
  | cons a r ih => intro s; rw [List.foldl_cons, ih]; simp; omega
end
theorem foldT_lt {T : Nat → Nat → (Nat → Nat) → Nat → Nat} (hT : ∀ x j f, (∀ i, f i < 256) → ∀ i, T x j f i < 256) (f : Nat → Nat) (hf : ∀ i, f i < 256) (l : List Nat) : ∀ i, (foldT T f l).1 i < 256 := by
  unfold foldT
  suffices h : ∀ (l : List Nat) (s : (Nat → Nat) × Nat), (∀ i, s.1 i < 256) → ∀ i, (l.foldl (fun s x => (T x s.2 s.1, s.2 + 1)) s).1 i < 256 from h l (f, 0) hf
  intro l
  induction l with
  | nil => intro s hs; exact hs
  | cons a r ih => intro s hs; rw [List.foldl_cons]; exact ih _ (hT _ _ _ hs)
def mulC (x c : Nat) : Nat := x * c % 18446744073709551616
def placeN (seed r b p : Nat) : Nat := seed ^^^ mulC r 11400714819323198485 ^^^ mulC b 14029467366897019727 ^^^ mulC p 1609587929392839161
def hashN (pl j : Nat) : Nat := pl ^^^ mulC j 2870177450012600261
theorem mulC_lt (x c : Nat) : mulC x c < 18446744073709551616 := by rw [mulC]; exact Nat.mod_lt _ (by omega)
theorem xor64 {a b : Nat} (ha : a < 18446744073709551616) (hb : b < 18446744073709551616) : a ^^^ b < 18446744073709551616 := Nat.xor_lt_two_pow (n := 64) ha hb
def pieceF (most L pc pl : Nat) (x j : Nat) (f : Nat → Nat) : Nat → Nat := pieceT most (pidx L pc x * pc) (min pc (L - pidx L pc x * pc)) (hashN pl j) f
def noiseT (most L pc pl : Nat) (f : Nat → Nat) : Nat → Nat := (foldT (pieceF most L pc pl) f (List.range (pieces L pc))).1
theorem pieceF_lt (most L pc pl x j : Nat) (f : Nat → Nat) (hf : ∀ i, f i < 256) : ∀ i, pieceF most L pc pl x j f i < 256 := turns_lt _ _ _ _ f hf
theorem pidx_lt {L pc x : Nat} (hL : 1 ≤ L) : pidx L pc x * pc < L := by
  unfold pidx
  by_cases h : x * pc < L
  · rw [if_pos h]; exact h
  · rw [if_neg h]; omega
theorem pieces_le {L pc : Nat} (hp : 1 ≤ pc) : pieces L pc ≤ L := by
  unfold pieces
  rcases Nat.eq_zero_or_pos L with h | h
  · subst h; rw [Nat.div_eq_of_lt (by omega)]; exact Nat.le_refl _
  · rw [Nat.div_le_iff_le_mul_add_pred (by omega)]
    have : L ≤ pc * L := Nat.le_mul_of_pos_left L (by omega)
    omega
def NoiseIn (w : World) (g N most L pc pl B : Nat) (seed : Nat) (f : Nat → Nat) (pre : List Nat) (W : World) : Prop :=
  W.heap[B]? = some (.cells #[.int .u64 (seed : Int), .int .i64 (most : Int), .int .i64 (pc : Int)] 123 (0, 0)) ∧ W.heap[B + 1]? = some (.cells #[.int .u64 (pl : Int)] 121 (0, 0)) ∧
    W.heap[B + 2]? = some (.cells #[.int .u64 ((pre.length : Nat) : Int)] 121 (0, 0)) ∧ ByteRow W g N 5 (foldT (pieceF most L pc pl) f pre).1 ∧ Upd (oneBlock g) w W ∧ B + 5 ≤ W.heap.size
theorem cells_grown {W W' : World} {row : Option Nat} (hg : W.grownBy W' row) (hr : ∀ r, row = some r → ∃ o : Obj, W.heap[r]? = some o ∧ o.isCells = false) {k : Nat} {c : Array Value} {t : TypeId} {z : Nat × Nat} (h : W.heap[k]? = some (.cells c t z)) : W'.heap[k]? = some (.cells c t z) := by
  rw [hg.block k (lt_of_block h) (fun e => by
    obtain ⟨o, ho, hc⟩ := hr k e.symm
    rw [h] at ho
    injection ho with ho
    subst ho
    cases hc)]
  exact h
theorem upd_grown {R : Nat → Prop} {w W W' : World} {row : Option Nat} (h : Upd R w W) (hg : W.grownBy W' row) (hr : ∀ r, row = some r → w.heap.size ≤ r) : Upd R w W' :=
  ⟨hg.os.trans h.os, hg.tape.trans h.tape, hg.output.trans h.output, Nat.le_trans h.size hg.size, fun k hk hn => (hg.block k (Nat.lt_of_lt_of_le hk h.size) (fun e => by have := hr k e.symm; omega)).trans (h.block k hk hn)⟩
theorem noise_own {w : World} {g N most L pc pl B C : Nat} {seed : Nat} {f : Nat → Nat} (hC : w.heap.size ≤ C) : OwnFrom C (fun pre W => NoiseIn w g N most L pc pl B seed f pre W) := by
  rintro pre W W' row ⟨h1, h2, h3, ⟨cur, z, h4, r4⟩, h5, h6⟩ hg hr
  have hr' : ∀ r, row = some r → ∃ o : Obj, W.heap[r]? = some o ∧ o.isCells = false := fun r e => (hr r e).2
  exact ⟨cells_grown hg hr' h1, cells_grown hg hr' h2, cells_grown hg hr' h3, ⟨cur, z, cells_grown hg hr' h4, r4⟩, upd_grown h5 hg (fun r e => Nat.le_trans hC (hr r e).1), Nat.le_trans h6 hg.size⟩

theorem keeps_upd {g C : Nat} {W W1 : World} (h : Upd (oneBlock g) W W1) (hg : g < C) : KeepsFrom C W W1 :=
  ⟨h.size, fun k o hk ho _ => (h.block k (lt_of_block ho) (fun e => by have e : k = g := e; omega)).trans ho⟩
theorem box_upd {g Bs Bn : Nat} {W W1 : World} (h : Upd (oneBlock g) W W1) (h1 : Bs < W.heap.size) (h2 : Bn < W.heap.size) (n1 : ¬ Bs = g) (n2 : ¬ Bn = g) : KpBox Bs Bn W W1 := ⟨h.block Bs h1 n1, h.block Bn h2 n2⟩
theorem NoiseIn.step {w : World} {g N most L pc pl B seed : Nat} {f : Nat → Nat} {pre : List Nat} {W W1 : World} (h : NoiseIn w g N most L pc pl B seed f pre W) (x : Nat) (hu : Upd (oneBlock g) W W1) (hg : g < B) (hB : w.heap.size ≤ B)
    (hrow : ByteRow W1 g N 5 (pieceF most L pc pl x pre.length (foldT (pieceF most L pc pl) f pre).1)) :
    NoiseIn w g N most L pc pl B seed f (pre ++ [x]) (W1.setCell ⟨B + 1 + 1, 0, none⟩ (.int .u64 ((pre.length : Int) + 1))) := by
  obtain ⟨h1, h2, h3, _, h5, h6⟩ := h
  have n0 : ¬ oneBlock g B := by show ¬ B = g; omega
  have n1 : ¬ oneBlock g (B + 1) := by show ¬ B + 1 = g; omega
  have n2 : ¬ oneBlock g (B + 2) := by show ¬ B + 2 = g; omega
  refine ⟨block_set_other (hu.cells h1 n0) (by show ¬ B = B + 1 + 1; omega) _, block_set_other (hu.cells h2 n1) (by show ¬ B + 1 = B + 1 + 1; omega) _, ?_, ?_, (h5.trans hu).setCell (p := ⟨B + 1 + 1, 0, none⟩) (.inr (by show w.heap.size ≤ B + 1 + 1; omega)) _, by have := hu.size; simp; omega⟩
  · have := block_set (i := 0) (hu.cells h3 n2) (.int .u64 ((pre.length : Int) + 1))
    rw [List.length_append]
    exact this
  · rw [foldT_snoc, foldT_snd]
    obtain ⟨cur, z, hc, r⟩ := hrow
    exact ⟨cur, z, block_set_other hc (by show ¬ g = B + 1 + 1; omega) _, r⟩

set_option maxRecDepth 100000 in
set_option maxHeartbeats 2000000 in
theorem disturb_in (n : Nat) (hn : 3 ≤ n) (seed r b p most pc g L cap N : Nat) (f : Nat → Nat) (w : World) (hm1 : 1 ≤ most) (hm2 : most ≤ 64) (hL1 : 1 ≤ L) (hL : L ≤ 2048) (hLc : L ≤ cap) (hLN : L ≤ N) (hN2 : N ≤ 4096) (hp : 1 ≤ pc) (hp2 : Hid (pc ≤ 9223372036854775807))
    (hs : Hid (seed < 18446744073709551616)) (hr : Hid (r < 4611686018427387904)) (hb : b ≤ 64) (hpp : p ≤ 64) (hg : g < w.heap.size) (hrow : ByteRow w g N 5 f) (hf : ∀ j, f j < 256) :
    CallsIn NF n Tryz.prog 121 #[.agg #[.int .u64 (seed : Int), .int .i64 (most : Int), .int .i64 (pc : Int)], .slice (some ⟨g, 0, none⟩) L cap, .int .i64 (r : Int), .int .i64 (b : Int), .int .i64 (p : Int)] w fun e w' => e = .returned (.tuple #[]) ∧ ByteRow w' g N 5 (noiseT most L pc (placeN seed r b p) f) ∧ Upd (oneBlock g) w w' := by
  have h1 : 1 ≤ n := by omega
  have HR := Lib.hid hrow
  have HF := Lib.hid hf
  clear hrow hf
  have d1 : decide ((most : Int) < 1) = false := decide_eq_false (by omega)
  have d2 : decide ((pc : Int) < 1) = false := decide_eq_false (by omega)
  obtain ⟨A1, hA1⟩ : ∃ x, x = mulC r 11400714819323198485 := ⟨_, rfl⟩
  obtain ⟨A2, hA2⟩ : ∃ x, x = mulC b 14029467366897019727 := ⟨_, rfl⟩
  obtain ⟨A3, hA3⟩ : ∃ x, x = mulC p 1609587929392839161 := ⟨_, rfl⟩
  have l1 := mulC_lt r 11400714819323198485
  have l2 := mulC_lt b 14029467366897019727
  have l3 := mulC_lt p 1609587929392839161
  rw [← hA1] at l1
  rw [← hA2] at l2
  rw [← hA3] at l3
  have e0 : IntKind.u64.wrap (r : Int) = (r : Int) := by have := hr.out; rw [IntKind.wrap_u64]; omega
  have e1 : IntKind.u64.wrap (IntKind.u64.wrap (r : Int) * 11400714819323198485) = (A1 : Int) := by rw [e0, hA1, mulC, IntKind.wrap_u64]; omega
  have e2 : IntKind.u64.wrap ((b : Int) * 14029467366897019727) = (A2 : Int) := by rw [hA2, mulC, IntKind.wrap_u64]; omega
  have e3 : IntKind.u64.wrap ((p : Int) * 1609587929392839161) = (A3 : Int) := by rw [hA3, mulC, IntKind.wrap_u64]; omega
  obtain ⟨X1, hX1⟩ : ∃ x, x = seed ^^^ A1 := ⟨_, rfl⟩
  obtain ⟨X2, hX2⟩ : ∃ x, x = X1 ^^^ A2 := ⟨_, rfl⟩
  obtain ⟨pl, hpl⟩ : ∃ x, x = X2 ^^^ A3 := ⟨_, rfl⟩
  have lx1 : X1 < 18446744073709551616 := by rw [hX1]; exact xor64 hs.out l1
  have lx2 : X2 < 18446744073709551616 := by rw [hX2]; exact xor64 lx1 l2
  have lpl : Hid (pl < 18446744073709551616) := Lib.hid (by rw [hpl]; exact xor64 lx2 l3)
  have x1 : bits .xor .u64 (seed : Int) (A1 : Int) = (X1 : Int) := by rw [hX1]; exact u64_xor_nat _ _ hs.out l1
  have x2 : bits .xor .u64 (X1 : Int) (A2 : Int) = (X2 : Int) := by rw [hX2]; exact u64_xor_nat _ _ lx1 l2
  have x3 : bits .xor .u64 (X2 : Int) (A3 : Int) = (pl : Int) := by rw [hpl]; exact u64_xor_nat _ _ lx2 l3
  have HPL : Hid (placeN seed r b p = pl) := Lib.hid (by rw [placeN, ← hA1, ← hA2, ← hA3, ← hX1, ← hX2, ← hpl])
  rw [HPL.out]
  clear hA1 hA2 hA3 hX1 hX2 hpl l1 l2 l3 lx1 lx2 e0 hs
  refine callsIn_of_wp_marks Tryz.func121 rfl trivial ?_ rfl
  simp only [Tryz.ntmps121, List.size_toArray, List.length_cons, List.length_nil, Nat.reduceAdd, Nat.reduceSub, Array.replicate_succ, Array.replicate_zero, List.push_toArray, List.append_toArray, List.nil_append, List.cons_append]
  gi_wp2_with (gi_at_call 165; refine (chunk_in (n - 1) _ _ _ _ _ hp).mono ?_; rintro e w' ⟨rfl, rfl⟩)
  obtain ⟨B, hB⟩ : ∃ B, B = w.heap.size := ⟨_, rfl⟩
  have HB := Lib.hid hB
  rw [← hB]
  clear hB e1 e2 e3 x1 x2 x3
  obtain ⟨W0, hW0⟩ : ∃ W0, W0 = ((((w.alloc (.cells #[.int .u64 (seed : Int), .int .i64 (most : Int), .int .i64 (pc : Int)] 123)).alloc (.cells #[.int .u64 (pl : Int)] 121)).alloc (.cells #[.int .u64 0] 121)).alloc (.cells #[.slice (some ⟨g, 0, none⟩) L cap] 105)).alloc (.cells #[.int .i64 (pc : Int)] 3) := ⟨_, rfl⟩
  rw [← hW0]
  have hsz : W0.heap.size = B + 5 := by rw [hW0, HB.out]; simp
  have hgB : g < B := by rw [HB.out]; exact hg
  have hu0 : Upd (oneBlock g) w W0 := by rw [hW0]; exact (((((Upd.refl (oneBlock g) w).alloc _).alloc _).alloc _).alloc _).alloc _
  have hN0 : NoiseIn w g N most L pc pl B seed f [] W0 := by
    have a1 := heap_alloc_new w (.cells #[.int .u64 (seed : Int), .int .i64 (most : Int), .int .i64 (pc : Int)] 123)
    have a2 := heap_alloc_new (w.alloc (.cells #[.int .u64 (seed : Int), .int .i64 (most : Int), .int .i64 (pc : Int)] 123)) (.cells #[.int .u64 (pl : Int)] 121)
    have a3 := heap_alloc_new ((w.alloc (.cells #[.int .u64 (seed : Int), .int .i64 (most : Int), .int .i64 (pc : Int)] 123)).alloc (.cells #[.int .u64 (pl : Int)] 121)) (.cells #[.int .u64 0] 121)
    simp only [World.size_alloc] at a2 a3
    rw [← HB.out] at a1 a2 a3
    refine ⟨?_, ?_, ?_, HR.out.grow ?_, hu0, by omega⟩
    · rw [hW0]; exact block_alloc (block_alloc (block_alloc (block_alloc a1 _) _) _) _
    · rw [hW0]; exact block_alloc (block_alloc (block_alloc a2 _) _) _
    · rw [hW0]; exact block_alloc (block_alloc a3 _) _
    · rw [hW0]; exact (((((Upd.refl noBlock w).alloc _).alloc _).alloc _).alloc _).alloc _
  have hcs : W0.cell? ⟨B + 1 + 1 + 1, 0, none⟩ = some (.slice (some ⟨g, 0, none⟩) L cap) ∧ W0.cell? ⟨B + 1 + 1 + 1 + 1, 0, none⟩ = some (.int .i64 (pc : Int)) := by
    have a4 := heap_alloc_new (((w.alloc (.cells #[.int .u64 (seed : Int), .int .i64 (most : Int), .int .i64 (pc : Int)] 123)).alloc (.cells #[.int .u64 (pl : Int)] 121)).alloc (.cells #[.int .u64 0] 121)) (.cells #[.slice (some ⟨g, 0, none⟩) L cap] 105)
    have a5 := heap_alloc_new ((((w.alloc (.cells #[.int .u64 (seed : Int), .int .i64 (most : Int), .int .i64 (pc : Int)] 123)).alloc (.cells #[.int .u64 (pl : Int)] 121)).alloc (.cells #[.int .u64 0] 121)).alloc (.cells #[.slice (some ⟨g, 0, none⟩) L cap] 105)) (.cells #[.int .i64 (pc : Int)] 3)
    simp only [World.size_alloc] at a4 a5
    rw [← HB.out] at a4 a5
    exact ⟨by rw [hW0]; exact cell_of (block_alloc a4 _) 0, by rw [hW0]; exact cell_of a5 0⟩
  have HN0 := Lib.hid hN0
  have HCS := Lib.hid hcs
  clear hW0 hN0 hcs hu0 HR
  refine wpIn_rangeFunc_ownG rfl h1 (gf := 206) (lb := #[.pointer (some ⟨B + 1 + 1 + 1, 0, none⟩), .pointer (some ⟨B + 1 + 1 + 1 + 1, 0, none⟩)]) rfl trivial (enters_of Tryz.func206 (by kernel_rfl) rfl)
    (chunk_stops (n - 1) (by omega) (B + 1 + 1 + 1) (B + 1 + 1 + 1 + 1) g L cap pc (by omega) hLc hp hp2 W0 (by omega) (by omega) HCS.out.1 HCS.out.2) KpBox.trans (fun W l o o' hl _ _ _ => ⟨World.putObj_heap_other (by omega), World.putObj_heap_other (by omega)⟩) (Below.refl _ _) (fun _ => rfl)
    (fun pre W => NoiseIn w g N most L pc pl B seed f pre W) (fun _ _ _ => False) (noise_own (by rw [hsz, HB.out]; omega)) (fun _ _ _ _ _ hs _ _ => hs) HN0.out
    (fun x => { tmps := #[.agg #[.int .u64 (seed : Int), .int .i64 (most : Int), .int .i64 (pc : Int)], .slice (some ⟨g, 0, none⟩) L cap, .int .i64 (r : Int), .int .i64 (b : Int), .int .i64 (p : Int), .pointer (some ⟨B, 0, none⟩), undef, undef, undef, undef, .pointer (some ⟨B + 1, 0, none⟩), .pointer (some ⟨B + 1 + 1, 0, none⟩), pieceV g L pc x, .pointer (some ⟨B, 1, none⟩), .int .i64 (most : Int), .bool false, .bool false, .pointer (some ⟨B, 2, none⟩), .int .i64 (pc : Int), .bool false, .bool false, .pointer (some ⟨B, 0, none⟩), .int .u64 (seed : Int), .int .i64 (r : Int), .int .u64 (IntKind.u64.wrap (r : Int)), .int .u64 (A1 : Int), .int .u64 (X1 : Int), .int .i64 (b : Int), .int .u64 (b : Int), .int .u64 (A2 : Int), .int .u64 (X2 : Int), .int .i64 (p : Int), .int .u64 (p : Int), .int .u64 (A3 : Int), .int .u64 (pl : Int), .slice (some ⟨g, 0, none⟩) L cap, .pointer (some ⟨B, 2, none⟩), .int .i64 (pc : Int), .func (.func 206) #[] #[.pointer (some ⟨B + 1 + 1 + 1, 0, none⟩), .pointer (some ⟨B + 1 + 1 + 1 + 1, 0, none⟩)], pieceV g L pc x, undef, undef, undef, undef, undef, undef, undef, undef, undef], defers := [] }) ?assign ?body ?done ?stop
  case assign =>
    intro l x W K hK
    gi_wp2
    exact hK
  case body =>
    rintro l pre x W hI hlen
    obtain ⟨i1, i2, i3, i4, i5, i6⟩ := id hI
    have HI := Lib.hid hI
    obtain ⟨j, hj⟩ : ∃ j, j = pre.length := ⟨_, rfl⟩
    have hj2 : j ≤ 2048 := by have := pieces_le (L := L) hp; omega
    rw [← hj] at i3
    have c0 := cell_of i1 0
    have c1 := cell_of i1 1
    have c2 := cell_of i1 2
    have cp := cell_of i2 0
    have ci : W.cell? ⟨B + 1 + 1, 0, none⟩ = some (.int .u64 (j : Int)) := cell_of i3 0
    obtain ⟨A4, hA4⟩ : ∃ y, y = mulC j 2870177450012600261 := ⟨_, rfl⟩
    have e4 : IntKind.u64.wrap ((j : Int) * 2870177450012600261) = (A4 : Int) := by rw [hA4, mulC, IntKind.wrap_u64]; omega
    obtain ⟨hh, hhh⟩ : ∃ y, y = pl ^^^ A4 := ⟨_, rfl⟩
    have l4 : A4 < 18446744073709551616 := by rw [hA4]; exact mulC_lt _ _
    have x4 : bits .xor .u64 (pl : Int) (A4 : Int) = (hh : Int) := by rw [hhh]; exact u64_xor_nat _ _ lpl.out l4
    have lh : hh < 18446744073709551616 := by rw [hhh]; exact xor64 lpl.out l4
    have HH : Hid (hh = hashN pl j) := Lib.hid (by rw [hhh, hA4, hashN])
    obtain ⟨o, ho⟩ : ∃ o, o = pidx L pc x * pc := ⟨_, rfl⟩
    have ho2 : o < L := by rw [ho]; exact pidx_lt hL1
    obtain ⟨ln, hln⟩ : ∃ ln, ln = min pc (L - o) := ⟨_, rfl⟩
    have hpv : pieceV g L pc x = .slice (some ⟨g, o, none⟩) ln ln := by unfold pieceV; rw [← ho, ← hln]
    have hl1 : 1 ≤ ln := by omega
    have hl2 : o + ln ≤ L := by omega
    have HP := Lib.hid (piece_in (n - 1 - 1 - 1) (seed : Int) (pc : Int) most g o ln ln N hh (foldT (pieceF most L pc pl) f pre).1 W hm1 hm2 hl1 (by omega) (by omega) hN2 lh i4 (foldT_lt (fun x j f h => pieceF_lt most L pc pl x j f h) f HF.out pre))
    have HPF : Hid (pieceT most o ln hh (foldT (pieceF most L pc pl) f pre).1 = pieceF most L pc pl x pre.length (foldT (pieceF most L pc pl) f pre).1) := Lib.hid (by rw [pieceF, ← ho, ← hln, HH.out, hj])
    have HJ := Lib.hid hj
    have HI3 := Lib.hid i3
    have hne : ¬ oneBlock g (B + 2) := by show ¬ B + 2 = g; omega
    rw [hpv]
    clear hA4 hhh lh l4 ho hln hpv i1 i2 i3 i4 i5 hI hj
    gi_wp2_with (gi_at_call 166; ((refine (CallsIn.inRound l HP.out).mono ?_); rintro e w1 ⟨rfl, hrow1, hu1⟩; have HRW := Lib.hid hrow1; have HU1 := Lib.hid hu1; have k3 := hu1.cells HI3.out hne; have ci1 : w1.cell? ⟨B + 1 + 1, 0, none⟩ = some (.int .u64 (j : Int)) := cell_of k3 0; have fi1 : w1.frozen? ⟨B + 1 + 1, 0, none⟩ = false := free_of k3 0; clear hrow1 hu1 k3))
    have hst := HI.out.step x HU1.out hgB (by rw [HB.out]; exact Nat.le_refl _) (by rw [← HPF.out]; exact HRW.out)
    rw [← HJ.out] at hst
    exact ⟨(keeps_upd HU1.out (by omega)).trans ((KeepsOthers.setCell _ _ _).from _), (box_upd HU1.out (by omega) (by omega) (by omega) (by omega)).trans ⟨Below.heap_setCell _ _ _ _ (by show ¬ B + 1 + 1 + 1 = B + 1 + 1; omega), Below.heap_setCell _ _ _ _ (by show ¬ B + 1 + 1 + 1 + 1 = B + 1 + 1; omega)⟩, hst⟩
  case done =>
    rintro D ys W hD rfl hI hK
    gi_wp2
    refine ⟨by simp, .inl ⟨_, _, rfl, run_takeDeferred hK, ?_⟩⟩
    have hF := (noise_own (w := w) (g := g) (N := N) (most := most) (L := L) (pc := pc) (pl := pl) (B := B) (C := w.heap.size) (seed := seed) (f := f) (Nat.le_refl _)).putObj (.deferred none) hI (by rw [hsz, HB.out] at hD; omega) hK rfl
    exact ⟨_, results_none rfl _ _ _, rfl, hF.2.2.2.1, hF.2.2.2.2.1⟩
  case stop =>
    rintro D c pre W _ _ h _
    exact h.elim
theorem disturb_any (seed r b p most pc g L cap N : Nat) (f : Nat → Nat) (w : World) (hm1 : 1 ≤ most) (hm2 : most ≤ 64) (hL1 : 1 ≤ L) (hL : L ≤ 2048) (hLc : L ≤ cap) (hLN : L ≤ N) (hN2 : N ≤ 4096) (hp : 1 ≤ pc) (hp2 : Hid (pc ≤ 9223372036854775807))
    (hs : Hid (seed < 18446744073709551616)) (hr : Hid (r < 4611686018427387904)) (hb : b ≤ 64) (hpp : p ≤ 64) (hrow : ByteRow w g N 5 f) (hf : ∀ j, f j < 256) :
    Calls Tryz.prog 121 #[.agg #[.int .u64 (seed : Int), .int .i64 (most : Int), .int .i64 (pc : Int)], .slice (some ⟨g, 0, none⟩) L cap, .int .i64 (r : Int), .int .i64 (b : Int), .int .i64 (p : Int)] w fun e w' => e = .returned (.tuple #[]) ∧ ByteRow w' g N 5 (noiseT most L pc (placeN seed r b p) f) ∧ Upd (oneBlock g) w w' := by
  have hg : g < w.heap.size := by
    obtain ⟨cur, z, hc, _⟩ := hrow
    exact lt_of_block hc
  exact CallsIn.calls (disturb_in 3 (Nat.le_refl _) seed r b p most pc g L cap N f w hm1 hm2 hL1 hL hLc hLN hN2 hp hp2 hs hr hb hpp hg hrow hf) (fun k d h => by cases h)
end Go.Proofs.YtoledgpcgjdjjaaGreatDoor
