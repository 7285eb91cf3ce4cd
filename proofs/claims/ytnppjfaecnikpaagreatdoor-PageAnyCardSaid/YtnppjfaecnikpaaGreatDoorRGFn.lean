import Derived.Test.YtnppjfaecnikpaaGreatDoorRGFe
import Derived.Test.YtnppjfaecnikpaaGreatDoorRGCd
import Derived.Test.YtnppjfaecnikpaaGreatDoorRAr
import Derived.Test.YtnppjfaecnikpaaGreatDoorRGBy
import Derived.Deep.RegionHeld3
/- PageSizes. Made by tools/gen_pagesizes.py. -/
namespace Go.Proofs.YtnppjfaecnikpaaGreatDoor
open F
open Go.RowKit Pm Cm
set_option linter.unusedVariables false
attribute [local irreducible] openL decUp Lib.onesCount parT sealed

end Go.Proofs.YtnppjfaecnikpaaGreatDoor

/- PageWrites. Made by tools/gen_pagewrites.py. -/
namespace Go.Proofs.YtnppjfaecnikpaaGreatDoor
open F
open Go.RowKit Pm Cm
set_option linter.unusedVariables false
attribute [local irreducible] openL decUp Lib.onesCount parT sealed

end Go.Proofs.YtnppjfaecnikpaaGreatDoor

/- PageApart. Made by tools/gen_pageapart.py. -/
namespace Go.Proofs.YtnppjfaecnikpaaGreatDoor
open F
open Go.RowKit Pm Cm
set_option linter.unusedVariables false
attribute [local irreducible] openL decUp Lib.onesCount parT sealed

theorem readM_pg (M : Ch) (i j q : Nat) : ((M.readM i).bk j).pg q = (M.bk j).pg q := by
  unfold Ch.readM Ch.setBk
  dsimp only
  split
  · rename_i e; rw [e]
  · rfl
theorem pop_le8 (x : Nat) : pop x ≤ 8 := by unfold pop; omega
end Go.Proofs.YtnppjfaecnikpaaGreatDoor

/- Read where bits turn; the chip of PageReads. -/
namespace Go.Proofs.YtnppjfaecnikpaaGreatDoor
open F
open Go.RowKit Pm Cm
set_option linter.unusedVariables false
attribute [local irreducible] openL decUp Lib.onesCount parT sealed

/-- PageReads' chip -/
structure NR (M : Ch) (nb np sz seed most s : Nat) (x1 : Pg) (n : Nat) : Prop where
  nb : M.nb = nb
  np : M.np = np
  sz : M.sz = sz
  off : M.off = false
  seed : M.seed = (seed : Int)
  most : M.most = (most : Int)
  piece : M.piece = (s : Int)
  fit : M.Fit n
  pg1 : (M.bk 0).pg 1 = x1
  pg2 : ((M.bk 0).pg 2).st = 0
theorem NR.read {M : Ch} {nb np sz seed most s : Nat} {x1 : Pg} {n : Nat} (h : NR M nb np sz seed most s x1 n) : NR (M.readM 0) nb np sz seed most s x1 (n + 1) :=
  ⟨h.nb, h.np, h.sz, h.off, h.seed, h.most, h.piece, h.fit.read 0, by rw [readM_pg]; exact h.pg1, by rw [readM_pg]; exact h.pg2⟩
theorem NR.first (nb np sz seed most s : Nat) (raw : List UInt8) (si mi pi : Int) (h1 : IntKind.u64.wrap si = (seed : Int)) (h2 : mi = (most : Int)) (h3 : most ≤ 64) (h4 : pi = (s : Int)) : NR ((m1C nb np sz 0 1 raw).noiseM si mi pi) nb np sz seed most s ⟨1, false, raw⟩ 1 := by
  have hf := (m1_fit nb np sz 0 1 raw).noise si mi pi
  obtain ⟨a1, a2, a3, a4, a5⟩ := m1_shape nb np sz 0 1 raw
  refine ⟨a1, a2, a3, a4, h1, ?_, h4, hf, m1_pg nb np sz 0 1 raw, ?_⟩
  · show min mi 64 = _
    omega
  · show (((m1C nb np sz 0 1 raw).bk 0).pg 2).st = 0
    rw [m1_eq]; rfl
theorem NR.spoil {M : Ch} {nb np sz seed most s : Nat} {raw : List UInt8} {n : Nat} (h : NR M nb np sz seed most s ⟨1, false, raw⟩ n) : NR (M.spoilM 0 1) nb np sz seed most s ⟨2, false, []⟩ n := by
  refine ⟨h.nb, h.np, h.sz, h.off, h.seed, h.most, h.piece, h.fit.spoil 0 1, ?_, h.pg2⟩
  show ((M.bk 0).pg 1).spoilW = _
  rw [h.pg1]; rfl
/-- bytes of somebody's stay through a pager's calls -/
def KB (W W' : World) : Prop := ∀ (i : Nat) (a : Array Value) (z : Nat × Nat), W.heap[i]? = some (.cells a 5 z) → W'.heap[i]? = some (.cells a 5 z)
theorem PgrIn.kb {w w' : World} {q : Nat} {b p : Int} {c k t : Nat} {ch bb : Nat} {pb : Nat → Nat} {M : Ch} {cc : Nat} (h : PgrIn w q b p c k t ch bb pb M cc) (hu : Upd (POwn ch bb pb M.nb cc) w w') : KB w w' := fun i a z hg => by
  obtain ⟨x, hx⟩ := h.code.block
  refine (hu.block i (lt_of_block hg) (fun e => ?_)).trans hg
  rcases e with (e1 | e1 | ⟨b, hb, e1⟩) | e1
  · exact apart hg h.chip.top (by decide) e1
  · obtain ⟨z, hz⟩ := row_block h.chip.blks
    exact apart hg hz (by decide) e1
  · obtain ⟨z, hz⟩ := (h.chip.pgs b hb).block
    exact apart hg hz (by decide) e1
  · exact apart hg hx (by decide) e1
theorem Bs.kb {w w' : World} {B : Nat} {v : Value} {l : List UInt8} (h : Bs w B 5 v l) (hu : KB w w') : Bs w' B 5 v l := by
  obtain ⟨g, cap, cur, z, rfl, hB, hg, r⟩ := h
  exact ⟨g, cap, cur, z, rfl, hB, hu g cur z hg, r⟩
end Go.Proofs.YtnppjfaecnikpaaGreatDoor

/- PageAny. Made by tools/gen_pageany.py. -/
namespace Go.Proofs.YtnppjfaecnikpaaGreatDoor
open F
open Go.RowKit Pm Cm
set_option linter.unusedVariables false
theorem empUp_zero (t : Nat) (P : Nat → List UInt8) : empUp t P 0 = true := rfl
theorem empUp_succ (t : Nat) (P : Nat → List UInt8) (i : Nat) : empUp t P (i + 1) = (empUp t P i && decide (zer (P i) ≤ t)) := rfl
attribute [local irreducible] openL decUp empUp Lib.onesCount parT sealed

theorem not8 : ∀ z : Fin 256, z.val ^^^ 255 = 255 - z.val := by decide +kernel
theorem bytes_nil (q : ByteArray) (h : q.data.toList = []) : q = ⟨#[]⟩ := ByteArray.ext (Array.ext' h)
theorem sliceP (w : World) (g m a b : Nat) (x y : Int) (hx : x = (a : Int)) (hy : y = (b : Int)) (hab : a ≤ b) (hb : b ≤ m) (ha : a < m) :
    (Instr.sliceAt 49 (.slice (some ⟨g, 0, none⟩) m m) (some (.int .i64 x)) (some (.int .i64 y)) none).run Tryz.prog w = .ok (.slice (some ⟨g, a, none⟩) (b - a) (m - a)) w := by
  obtain ⟨i0, hi0, _, hz1, _⟩ := byteParts
  subst hx hy
  have h1 : (a : Int) ≤ (b : Int) := by omega
  have h2 : (b : Int) ≤ (m : Int) := by omega
  have h3 : ¬ m = a := by omega
  simp [Instr.sliceAt, Instr.slice, run_underlying Tryz.underlying49, Instr.sliceBounds, run_sliceBound, sizeOf, typeInfo, hi0, hz1, h1, h2, h3, Addr.add]
  omega
theorem byteInfoP : (Tryz.prog.info? 5).map (fun i => (i.zero, i.size, i.bytes)) = some (some (.int .u8 0), 1, 1) := by kernel_rfl
theorem makeP (m : Nat) (hm : m ≤ 5000) : ∀ w : World, (Instr.makeSlice 49 (.int .i64 (m : Int)) (.int .i64 (m : Int))).run Tryz.prog w = .ok (.slice (some ⟨w.heap.size, 0, none⟩) m m) (w.alloc (.cells (madeCells #[.int .u8 0] m) 5)) :=
  run_make_row' (P := Tryz.prog) 49 5 (.int .u8 0) 1 Tryz.underlying49 byteInfoP rfl .i64 .i64 m (by omega) (by omega)
theorem madeP (w : World) (m : Nat) : ByteRow (w.alloc (.cells (madeCells #[.int .u8 0] m) 5)) w.heap.size m 5 (fun _ => 0) := by
  obtain ⟨c, h1, h2, h3⟩ := World.rowIs_made w (.int .u8 0) m 5
  exact ⟨c, (0, 0), h1, .inl rfl, Nat.le_of_eq h2.symm, fun j hj => h3 j hj⟩
theorem ByteRow.kb {w w' : World} {g n : Nat} {f : Nat → Nat} (h : ByteRow w g n 5 f) (hu : KB w w') : ByteRow w' g n 5 f := by
  obtain ⟨cur, z, hg, r⟩ := h
  exact ⟨cur, z, hu g cur z hg, r⟩
theorem ByteRow.sub {w : World} {g n : Nat} {l : List UInt8} (h : ByteRow w g n 5 (fun j => (l.getD j 0).toNat)) (hl : l.length = n) (o d cap : Nat) (ho : o + d ≤ n) :
    (convert 49 9 (.slice (some ⟨g, o, none⟩) d cap)).run Tryz.prog w = .ok (.string ⟨((l.drop o).take d).toArray⟩) w := by
  have hd : ((l.drop o).take d).length = d := by rw [List.length_take, List.length_drop]; omega
  have h9 := run_convert_bytes_back (P := Tryz.prog) w 49 9 5 ⟨g, o, none⟩ cap ((l.drop o).take d) Tryz.underlying49 Tryz.underlying5 Tryz.underlying9 (fun j hj => by
    have hj2 : j < d := by omega
    have e : (⟨g, o, none⟩ : Addr).add j = ⟨g, o + j, none⟩ := by
      by_cases h0 : j = 0
      · subst h0; simp [Addr.add]
      · simp [Addr.add, h0]
    rw [e, h.cell (o + j) (by omega)]
    have e2 : ((l.drop o).take d)[j] = l.getD (o + j) 0 := by
      rw [List.getElem_take, List.getElem_drop, List.getD_eq_getElem?_getD, List.getElem?_eq_getElem (by omega)]; rfl
    rw [e2])
  rw [hd] at h9
  exact h9
set_option maxRecDepth 100000 in
set_option maxHeartbeats 3200000 in
theorem pageAny_bad (b p c k t : Int) (s : ByteArray) (w : World) (hT : Tab w) (h : ¬ GoodG b p c k t) :
    Calls Tryz.prog 6 #[geoV b p c k t, .string s] w fun e w' => e = .returned (.bool true) ∧ Upd noBlock w w' := by
  have hnot : ∀ (x : Bool) (w : World), (Op.unary .not (.bool x)).run Tryz.prog w = .ok (.bool (!x)) w := fun _ _ => rfl
  have HSP : Hid (∀ W, Upd noBlock w W → Calls Tryz.prog 10 #[] W fun e w' => e = .returned (.bool true) ∧ Upd noBlock W w') := fun W hW => speaks6_any W (hT.upd hW)
  have HGE := Lib.hid (fun W => geometry6 b p c k t W)
  have HSZ := Lib.hid (fun W => sizes_bad b p c k t W h)
  clear hT h
  unfold geoV at *
  obtain ⟨wa, hwa⟩ : ∃ wa, wa = w.alloc (.cells #[.int .i64 b, .int .i64 p, .int .i64 c, .int .i64 k, .int .i64 t] 22) := ⟨_, rfl⟩
  have hA : wa.heap[w.heap.size]? = some (.cells #[.int .i64 b, .int .i64 p, .int .i64 c, .int .i64 k, .int .i64 t] 22 (0, 0)) := by rw [hwa]; exact heap_alloc_new w _
  have UA : Hid (Upd noBlock w wa) := by rw [hwa]; exact (Upd.refl _ _).alloc _
  have HA := Lib.hid hA
  obtain ⟨A, hAe⟩ : ∃ A, A = w.heap.size := ⟨_, rfl⟩
  obtain ⟨z0, z1, z2, z3, z4⟩ := geo_cells hA
  rw [← hAe] at HA z0 z1 z2 z3 z4
  clear hA
  go_enter Tryz.func6, Tryz.ntmps6
  go_upto_region 1 with fail
  rw [← hwa, ← hAe]
  clear hwa hAe
  go_upto_region 4 with (first
    | (go_at_call 10; (with_reducible refine (HSP.out _ UA.out).mono ?_); rintro e w1 ⟨rfl, hu1⟩; have U1 : Hid (Upd noBlock wa w1) := hu1; obtain ⟨z0, z1, z2, z3, z4⟩ := geo_cells ((hu1.block A (lt_of_block HA.out) id).trans HA.out); clear hu1)
    | (go_at_call 11; (with_reducible refine (HGE.out _).mono ?_); rintro e w2 ⟨rfl, hu2⟩; have U2 : Hid (Upd noBlock wa w2) := U1.out.trans hu2; clear hu2))
  clear z0 z1 z2 z3 z4
  obtain ⟨wb, hwb⟩ : ∃ wb, wb = (w2.alloc (.cells #[.int .i64 b, .int .i64 p, .int .i64 c, .int .i64 k, .int .i64 t] 25)).alloc (.cells #[.int .i64 b, .int .i64 p, .int .i64 c, .int .i64 k, .int .i64 t] 26) := ⟨_, rfl⟩
  have hB0 : wb.heap[w2.heap.size]? = some (.cells #[.int .i64 b, .int .i64 p, .int .i64 c, .int .i64 k, .int .i64 t] 25 (0, 0)) := by rw [hwb]; exact block_alloc (heap_alloc_new w2 _) _
  have hB1 : wb.heap[w2.heap.size + 1]? = some (.cells #[.int .i64 b, .int .i64 p, .int .i64 c, .int .i64 k, .int .i64 t] 26 (0, 0)) := by
    have h9 := heap_alloc_new (w2.alloc (.cells #[.int .i64 b, .int .i64 p, .int .i64 c, .int .i64 k, .int .i64 t] 25)) (.cells #[.int .i64 b, .int .i64 p, .int .i64 c, .int .i64 k, .int .i64 t] 26)
    rw [World.size_alloc] at h9
    rw [hwb]; exact h9
  have hU : Upd noBlock wa wb := by rw [hwb]; exact (U2.out.alloc _).alloc _
  have hB2 : wb.heap[A]? = some (.cells #[.int .i64 b, .int .i64 p, .int .i64 c, .int .i64 k, .int .i64 t] 22 (0, 0)) := (hU.block A (lt_of_block HA.out) id).trans HA.out
  have UB : Hid (Upd noBlock w wb) := UA.out.trans hU
  rw [← hwb]
  generalize w2.heap.size + 1 = g1 at *
  generalize w2.heap.size = g0 at *
  have HGC : Hid (∀ W, Upd noBlock wb W → (W.cell? ⟨g0, 0, none⟩ = some (.int .i64 b) ∧ W.cell? ⟨g0, 1, none⟩ = some (.int .i64 p) ∧ W.cell? ⟨g0, 2, none⟩ = some (.int .i64 c) ∧ W.cell? ⟨g0, 3, none⟩ = some (.int .i64 k) ∧ W.cell? ⟨g0, 4, none⟩ = some (.int .i64 t)) ∧ (W.cell? ⟨g1, 0, none⟩ = some (.int .i64 b) ∧ W.cell? ⟨g1, 1, none⟩ = some (.int .i64 p) ∧ W.cell? ⟨g1, 2, none⟩ = some (.int .i64 c) ∧ W.cell? ⟨g1, 3, none⟩ = some (.int .i64 k) ∧ W.cell? ⟨g1, 4, none⟩ = some (.int .i64 t)) ∧ W.cell? ⟨A, 2, none⟩ = some (.int .i64 c) ∧ W.cell? ⟨A, 3, none⟩ = some (.int .i64 k) ∧ W.cell? ⟨A, 4, none⟩ = some (.int .i64 t)) := fun W hW => by
    have h0 := (hW.block _ (lt_of_block hB0) id).trans hB0
    have h1 := (hW.block _ (lt_of_block hB1) id).trans hB1
    have h2 := (hW.block _ (lt_of_block hB2) id).trans hB2
    exact ⟨geo_cells h0, geo_cells h1, cell_of h2 2, cell_of h2 3, cell_of h2 4⟩
  obtain ⟨⟨z0, z1, z2, z3, z4⟩, ⟨r0, r1, r2, r3, r4⟩, q0, q1, q2⟩ := HGC.out _ (Upd.refl _ _)
  clear hB0 hB1 hB2 hU hwb U1 U2 HA UA HSP HGE
  go_wp2_with (first
    | (go_at_call 13; (with_reducible refine (HSZ.out _).mono ?_); rintro e w3 ⟨rfl, hu⟩; have V3 := Lib.hid hu; obtain ⟨⟨z0, z1, z2, z3, z4⟩, ⟨r0, r1, r2, r3, r4⟩, q0, q1, q2⟩ := HGC.out _ hu; clear hu))
  go_ret
  exact ⟨rfl, UB.out.trans V3.out⟩
set_option maxRecDepth 100000 in
set_option maxHeartbeats 6400000 in
theorem pageAny_in (b p : Int) (c k t : Nat) (s : ByteArray) (w : World) (hT : Tab w) (h : GoodG b p c k t) (hs : s.size ≤ 140737488351232) :
    Calls Tryz.prog 6 #[geoV b p (c : Int) (k : Int) (t : Int), .string s] w fun e w' => e = .returned (.bool true) ∧ Upd noBlock w w' := by
  have hnot : ∀ (x : Bool) (w : World), (Op.unary .not (.bool x)).run Tryz.prog w = .ok (.bool (!x)) w := fun _ _ => rfl
  have HSP : Hid (∀ W, Upd noBlock w W → Calls Tryz.prog 10 #[] W fun e w' => e = .returned (.bool true) ∧ Upd noBlock W w') := fun W hW => speaks6_any W (hT.upd hW)
  have HTW := Lib.hid (fun W (hW : Upd noBlock w W) => hT.upd hW)
  have HGE := Lib.hid (fun W => geometry6 b p (c : Int) (k : Int) (t : Int) W)
  have hrp := rawN_pos h
  have HSZ := Lib.hid (fun W => sizes_good b p c k t W h)
  have hrn : c * (k + (13 * t + 7) / 8) = rawN t k c := rfl
  simp only [hrn] at HSZ
  clear hrn
  have HG := Lib.hid h
  obtain ⟨m1, m2, hck⟩ : 16 ≤ c * k ∧ c * k ≤ 1024 ∧ (c : Int) * (k : Int) - 7 = ((c * k - 7 : Nat) : Int) := by
    have c1 := h.c1; have c2 := h.c2; have k1 := h.k1; have k2 := h.k2
    have m1 : 16 ≤ c * k := by have := Nat.mul_le_mul (show 1 ≤ c by omega) (show 16 ≤ k by omega); omega
    exact ⟨m1, Nat.mul_le_mul (show c ≤ 4 by omega) (show k ≤ 256 by omega), toInt_mul c k (by omega)⟩
  rw [hck] at HSZ
  have HNW := Lib.hid (fun ch W => pnew_good b p c k t ch W h)
  have HG2 := h
  have t8 : t ≤ 8 := by have := HG2.t2; omega
  have t1' : 1 ≤ t := by have := HG2.t1; omega
  have c4 : c ≤ 4 := by have := HG2.c2; omega
  have c1' : 1 ≤ c := by have := HG2.c1; omega
  have k256 : k ≤ 256 := by have := HG2.k2; omega
  have k16 : 16 ≤ k := by have := HG2.k1; omega
  obtain ⟨sp, hsp⟩ : ∃ sp, k + (13 * t + 7) / 8 = sp := ⟨_, rfl⟩
  have hcs : rawN t k c = c * sp := by rw [← hsp]; rfl
  have hsp269 : sp ≤ 269 := by rw [← hsp]; omega
  have hspk : k ≤ sp := by omega
  have hrl : c * sp ≤ 1076 := Nat.mul_le_mul c4 hsp269
  have hsp1 : 1 ≤ sp := by omega
  have HCH : Hid (∀ W, Calls Tryz.prog 23 #[.int .i64 1, .int .i64 4, .int .i64 ((rawN t k c : Nat) : Int)] W fun e w' => NewC 1 4 (rawN t k c) W w' e) := fun W => new_at 1 4 (rawN t k c) 1 4 ((rawN t k c : Nat) : Int) rfl rfl rfl W (by decide) (by decide) (by decide) (by decide) (by decide) (by omega) (by omega)
  have HPR : Hid (∀ wx q ch bb pb cc W (ls : ByteArray), ls.size = rawN t k c → PN wx q b p c k t ch bb pb (newCh 1 4 (rawN t k c)) cc W → Calls Tryz.prog 24 #[.pointer (some ⟨ch, 0, none⟩), .int .i64 0, .int .i64 0, .string ls] W fun e w' => e = .returned (.int .i64 0) ∧ PN wx q b p c k t ch bb pb (m1C 1 4 (rawN t k c) 0 0 ls.data.toList) cc w' ∧ KB W w') := fun wx q ch bb pb cc W ls hls hW => by
    have h9 := program_at ch bb pb (newCh 1 4 (rawN t k c)) 0 0 0 0 0 rfl rfl ls ls.data.toList rfl _ rfl W hW.i.chip (newCh_fit 1 4 _) (by decide) (by show 0 < 1; omega) (by show 0 < 4; omega) (by rw [hls]; rfl)
    rw [m1_e] at h9
    exact h9.mono fun e w' ⟨he, hc, hu⟩ => ⟨he, hW.upd (hW.i.chipped hu hc) (POwn.chip hu) (m1_shape 1 4 _ 0 0 _).1, hW.i.kb (POwn.chip hu)⟩
  have HRD : Hid (∀ wx, Upd noBlock w wx → ∀ q ch bb pb cc W (l : List UInt8), l.length = rawN t k c → PN wx q b p c k t ch bb pb (m1C 1 4 (rawN t k c) 0 0 l) cc W → Calls Tryz.prog 21 #[.pointer (some ⟨q, 0, none⟩), .int .i64 0, .int .i64 0] W fun e w' => e = .returned (.tuple #[(foundL t k c (pieceL l sp)).val, .int .i64 0]) ∧ Upd noBlock wx w' ∧ KB W w') := fun wx hwx q ch bb pb cc W l hl hW => by
    obtain ⟨s1, s2, s3, s4, s5⟩ := m1_shape 1 4 (rawN t k c) 0 0 l
    have hsh : (((m1C 1 4 (rawN t k c) 0 0 l).bk 0).pg 0).show (m1C 1 4 (rawN t k c) 0 0 l).sz = l := by rw [m1_pg]; rfl
    have h9 := pread_in q b p c k t ch bb pb (m1C 1 4 (rawN t k c) 0 0 l) cc 0 0 0 0 1 rfl rfl W HG.out hW.i (hW.tab (HTW.out _ hwx)) (m1_fit 1 4 _ 0 0 l) (by decide) (by rw [s1]; decide) (by rw [s2]; decide) s3 s4 (.inl s5) (by rw [m1_pg]; show 1 ≤ 2; omega) (by rw [hsh, s3, hl])
    rw [hsh, hsp] at h9
    exact h9.mono fun e w' ⟨he, hi, hu⟩ => ⟨he, upd_all hW.u hu hW.o, hW.i.kb hu⟩
  have HPGE : Hid (∀ (x : ByteArray) W, x.size ≤ c * k - 7 → Calls Tryz.prog 19 #[geoV b p (c : Int) (k : Int) (t : Int), .string x] W fun e w' => e = .returned (.string ⟨(pageL t k c x.data.toList).toArray⟩) ∧ Upd noBlock W w') := fun x W hx => refPage_any b p c k t x W HG.out hx
  have HFC : Hid (∀ P, (∀ i, i < c → (P i).length = sp) → (empUp t P c = true ∧ foundL t k c P = ⟨0, [], 0⟩) ∨ (empUp t P c = false ∧ foundL t k c P = ⟨2, [], 0⟩) ∨ (empUp t P c = false ∧ ∃ (x : List UInt8) (N : Nat → Nat), foundL t k c P = ⟨1, x, ((List.range c).map N).sum⟩ ∧ x.length = c * k - 7 ∧
      ∀ i, i < c → N i ≤ t ∧ dist (8 * k + 13 * t) (dbit (P i)) (dbit (pieceL (pageL t k c x) sp i)) = N i)) := fun P hP => by
    subst hsp
    exact found_cases t1' t8 (by omega) P hP
  have HPLN : Hid (∀ x : List UInt8, x.length = c * k - 7 → (pageL t k c x).length = c * sp) := fun x hx => by
    rw [← hsp]; exact pageL_length (t := t) (k := k) (c := c) (l := x) (by omega) (by omega)
  have HPSP : Hid ((13 * t + 7) / 8 = sp - k) := by show _ = _; omega
  have hraw : ((rawN t k c : Nat) : Int).tdiv (c : Int) = (sp : Int) := by
    have e : ((rawN t k c : Nat) : Int) = (c : Int) * (sp : Int) := by rw [hcs]; push_cast; rfl
    rw [e]
    exact Int.mul_tdiv_cancel_left _ (by omega)
  have hrawE : ((rawN t k c : Nat) : Int) / (c : Int) = (sp : Int) := by
    have e : ((rawN t k c : Nat) : Int) = (c : Int) * (sp : Int) := by rw [hcs]; push_cast; rfl
    rw [e]
    exact Int.mul_ediv_cancel_left _ (by omega)
  have hcn : ¬ c = 0 := by omega
  have hc0 : ((c : Int) == 0) = false := beq_eq_false_iff_ne.2 (by omega)
  have hwsp : IntKind.i64.wrap (sp : Int) = (sp : Int) := by rw [IntKind.wrap_i64]; omega
  clear HG2 HTW
  obtain ⟨m, hm⟩ : ∃ m, rawN t k c = m := ⟨_, rfl⟩
  simp only [hm] at *
  obtain ⟨n, hn⟩ : ∃ n, c * k - 7 = n := ⟨_, rfl⟩
  simp only [hn] at *
  have d0 : ((m : Int) == 0) = false := beq_eq_false_iff_ne.2 (by omega)
  have hmb : m ≤ 1076 := by omega
  have hmk := makeP m (by omega)
  have HCS := Lib.hid hcs
  clear hcs hm hn hck hT hrp m1 m2 h HG
  unfold geoV NewC at *
  obtain ⟨wa, hwa⟩ : ∃ wa, wa = w.alloc (.cells #[.int .i64 b, .int .i64 p, .int .i64 (c : Int), .int .i64 (k : Int), .int .i64 (t : Int)] 22) := ⟨_, rfl⟩
  have hA : wa.heap[w.heap.size]? = some (.cells #[.int .i64 b, .int .i64 p, .int .i64 (c : Int), .int .i64 (k : Int), .int .i64 (t : Int)] 22 (0, 0)) := by rw [hwa]; exact heap_alloc_new w _
  have UA : Hid (Upd noBlock w wa) := by rw [hwa]; exact (Upd.refl _ _).alloc _
  have HA := Lib.hid hA
  obtain ⟨A, hAe⟩ : ∃ A, A = w.heap.size := ⟨_, rfl⟩
  obtain ⟨z0, z1, z2, z3, z4⟩ := geo_cells hA
  rw [← hAe] at HA z0 z1 z2 z3 z4
  clear hA
  go_enter Tryz.func6, Tryz.ntmps6
  go_upto_region 1 with fail
  rw [← hwa, ← hAe]
  clear hwa hAe
  go_upto_region 4 with (first
    | (go_at_call 10; (with_reducible refine (HSP.out _ UA.out).mono ?_); rintro e w1 ⟨rfl, hu1⟩; have U1 : Hid (Upd noBlock wa w1) := hu1; obtain ⟨z0, z1, z2, z3, z4⟩ := geo_cells ((hu1.block A (lt_of_block HA.out) id).trans HA.out); clear hu1)
    | (go_at_call 11; (with_reducible refine (HGE.out _).mono ?_); rintro e w2 ⟨rfl, hu2⟩; have U2 : Hid (Upd noBlock wa w2) := U1.out.trans hu2; clear hu2))
  clear z0 z1 z2 z3 z4
  obtain ⟨wb, hwb⟩ : ∃ wb, wb = (w2.alloc (.cells #[.int .i64 b, .int .i64 p, .int .i64 (c : Int), .int .i64 (k : Int), .int .i64 (t : Int)] 25)).alloc (.cells #[.int .i64 b, .int .i64 p, .int .i64 (c : Int), .int .i64 (k : Int), .int .i64 (t : Int)] 26) := ⟨_, rfl⟩
  have hB0 : wb.heap[w2.heap.size]? = some (.cells #[.int .i64 b, .int .i64 p, .int .i64 (c : Int), .int .i64 (k : Int), .int .i64 (t : Int)] 25 (0, 0)) := by rw [hwb]; exact block_alloc (heap_alloc_new w2 _) _
  have hB1 : wb.heap[w2.heap.size + 1]? = some (.cells #[.int .i64 b, .int .i64 p, .int .i64 (c : Int), .int .i64 (k : Int), .int .i64 (t : Int)] 26 (0, 0)) := by
    have h9 := heap_alloc_new (w2.alloc (.cells #[.int .i64 b, .int .i64 p, .int .i64 (c : Int), .int .i64 (k : Int), .int .i64 (t : Int)] 25)) (.cells #[.int .i64 b, .int .i64 p, .int .i64 (c : Int), .int .i64 (k : Int), .int .i64 (t : Int)] 26)
    rw [World.size_alloc] at h9
    rw [hwb]; exact h9
  have hU : Upd noBlock wa wb := by rw [hwb]; exact (U2.out.alloc _).alloc _
  have hB2 : wb.heap[A]? = some (.cells #[.int .i64 b, .int .i64 p, .int .i64 (c : Int), .int .i64 (k : Int), .int .i64 (t : Int)] 22 (0, 0)) := (hU.block A (lt_of_block HA.out) id).trans HA.out
  have UB : Hid (Upd noBlock w wb) := UA.out.trans hU
  rw [← hwb]
  generalize w2.heap.size + 1 = g1 at *
  generalize w2.heap.size = g0 at *
  have HGC : Hid (∀ W, Upd noBlock wb W → (W.cell? ⟨g0, 0, none⟩ = some (.int .i64 b) ∧ W.cell? ⟨g0, 1, none⟩ = some (.int .i64 p) ∧ W.cell? ⟨g0, 2, none⟩ = some (.int .i64 (c : Int)) ∧ W.cell? ⟨g0, 3, none⟩ = some (.int .i64 (k : Int)) ∧ W.cell? ⟨g0, 4, none⟩ = some (.int .i64 (t : Int))) ∧ (W.cell? ⟨g1, 0, none⟩ = some (.int .i64 b) ∧ W.cell? ⟨g1, 1, none⟩ = some (.int .i64 p) ∧ W.cell? ⟨g1, 2, none⟩ = some (.int .i64 (c : Int)) ∧ W.cell? ⟨g1, 3, none⟩ = some (.int .i64 (k : Int)) ∧ W.cell? ⟨g1, 4, none⟩ = some (.int .i64 (t : Int))) ∧ W.cell? ⟨A, 2, none⟩ = some (.int .i64 (c : Int)) ∧ W.cell? ⟨A, 3, none⟩ = some (.int .i64 (k : Int)) ∧ W.cell? ⟨A, 4, none⟩ = some (.int .i64 (t : Int))) := fun W hW => by
    have h0 := (hW.block _ (lt_of_block hB0) id).trans hB0
    have h1 := (hW.block _ (lt_of_block hB1) id).trans hB1
    have h2 := (hW.block _ (lt_of_block hB2) id).trans hB2
    exact ⟨geo_cells h0, geo_cells h1, cell_of h2 2, cell_of h2 3, cell_of h2 4⟩
  obtain ⟨⟨z0, z1, z2, z3, z4⟩, ⟨r0, r1, r2, r3, r4⟩, q0, q1, q2⟩ := HGC.out _ (Upd.refl _ _)
  clear hB0 hB1 hB2 hU hwb U1 U2 HA UA HSP HGE
  go_upto_region 7 with (first
    | (go_at_call 13; (with_reducible refine (HSZ.out _).mono ?_); rintro e w3 ⟨rfl, hu⟩; have V3 : Hid (Upd noBlock wb w3) := hu; obtain ⟨⟨z0, z1, z2, z3, z4⟩, ⟨r0, r1, r2, r3, r4⟩, q0, q1, q2⟩ := HGC.out _ hu; clear hu))
  have R0 := Lib.hid (madeP w3 m)
  have V4 : Hid (Upd noBlock wb (w3.alloc (.cells (madeCells #[.int .u8 0] m) 5))) := V3.out.alloc _
  have HGB : Hid (wb.heap.size ≤ w3.heap.size) := V3.out.size
  clear V3 HSZ
  go_wp2
  obtain ⟨gb, hgb⟩ : ∃ gb, gb = w3.heap.size := ⟨_, rfl⟩
  rw [← hgb] at R0 HGB ⊢
  go_loopw [10] (fun i wr => ∃ (j : Nat) (f : Nat → Nat), j ≤ m ∧ i = .int .i64 (j : Int) ∧ Hid (∀ x, f x < 256) ∧ Hid (ByteRow wr gb m 5 f) ∧ Hid (Upd noBlock wb wr)) (fun i _ => m - (intOf i).toNat)
  case atStart => exact ⟨0, fun _ => 0, Nat.zero_le _, rfl, (fun _ => by show 0 < 256; omega), R0, V4⟩
  case round =>
    clear R0 V4 hmk hgb z0 z1 z2 z3 z4 r0 r1 r2 r3 r4 q0 q1 q2
    obtain ⟨j, f, hj, rfl, Hf, HR, HU⟩ := hrel
    by_cases h0 : j < m
    · have dj : decide ((j : Int) < (m : Int)) = true := decide_eq_true (by omega)
      by_cases h1 : 0 < s.size
      · have ds : decide ((0 : Int) < (s.size : Int)) = true := decide_eq_true (by omega)
        have ds2 : decide (0 < s.size) = true := decide_eq_true h1
        obtain ⟨r, hr⟩ : ∃ r, j % s.size = r := ⟨_, rfl⟩
        have hrs : r < s.size := by rw [← hr]; exact Nat.mod_lt _ h1
        have e1 : (j : Int) % (s.size : Int) = (r : Int) := by rw [← hr]; exact (Int.natCast_emod j s.size).symm
        have e2 : (j : Int).tmod (s.size : Int) = (r : Int) := by rw [Int.tmod_eq_emod_of_nonneg (by omega)]; exact e1
        have hsn : ¬ s.size = 0 := by omega
        have hwr : IntKind.i64.wrap (r : Int) = (r : Int) := by rw [IntKind.wrap_i64]; omega
        have cj := HR.out.cell j h0
        have fj := HR.out.free j h0
        clear hr
        go_wp2
        go_roundw
        case rel => exact ⟨j + 1, fun x => if x = j then s[r].toNat else f x, by omega, by go_num, (fun x => by show (if x = j then _ else f x) < 256; split; exact s[r].toNat_lt; exact Hf.out x), HR.out.set j _, HU.out.setCell (.inr HGB.out) _⟩
        case measure => simp [intOf]; omega
      · have ds : decide ((0 : Int) < (s.size : Int)) = false := decide_eq_false (by omega)
        have ds2 : decide (0 < s.size) = false := decide_eq_false h1
        go_wp2
        go_roundw
        case rel => exact ⟨j + 1, f, by omega, by go_num, Hf, HR, HU⟩
        case measure => simp [intOf]; omega
    · have hjm : j = m := by omega
      rw [hjm]
      have dj : decide ((m : Int) < (m : Int)) = false := decide_eq_false (by omega)
      have dj2 : decide (m < m) = false := decide_eq_false (by omega)
      obtain ⟨l, hll, hlf⟩ := bytes_of m f Hf.out
      have HRL := Lib.hid (HR.out.congr hlf)
      clear HR Hf hlf hjm hj h0
      obtain ⟨ls, hls⟩ : ∃ ls : ByteArray, ⟨l.toArray⟩ = ls := ⟨_, rfl⟩
      have hlsz : ls.size = m := by rw [← hls]; show l.toArray.size = m; rw [List.size_toArray, hll]
      have HLS : Hid (ls.data.toList = l) := by show _ = _; rw [← hls]
      have HCV : Hid (∀ W, ByteRow W gb m 5 (fun j => (l.getD j 0).toNat) → (convert 49 9 (.slice (some ⟨gb, 0, none⟩) m m)).run Tryz.prog W = .ok (.string ls) W) := fun W hW => by
        rw [← hls]
        exact hW.text l hll (fun j h => by rw [List.getD_eq_getElem?_getD, List.getElem?_eq_getElem h]; rfl) m _ _ Tryz.underlying49 Tryz.underlying5 Tryz.underlying9
      have hfc := HFC.out (pieceL l sp) (fun i hi => pieceL_length (hll.trans HCS.out) hi)
      obtain ⟨F, hF⟩ : ∃ F, foundL t k c (pieceL l sp) = F := ⟨_, rfl⟩
      rw [hF] at hfc
      have HRD2 : Hid (∀ q ch bb pb cc W, PN wb q b p c k t ch bb pb (m1C 1 4 m 0 0 l) cc W → Calls Tryz.prog 21 #[.pointer (some ⟨q, 0, none⟩), .int .i64 0, .int .i64 0] W fun e w' => e = .returned (.tuple #[.agg #[.int .i64 (F.st : Int), .string ⟨F.pl.toArray⟩, .int .i64 (F.tn : Int)], .int .i64 0]) ∧ Upd noBlock wb w' ∧ KB W w') := fun q ch bb pb cc W hW => by
        rw [← hF]
        exact HRD.out wb UB.out q ch bb pb cc W l hll hW
      clear HRD hF hls HFC
      obtain ⟨st, pl, tn⟩ := F
      simp only at HRD2
      obtain ⟨ps, hps⟩ : ∃ ps : ByteArray, ⟨pl.toArray⟩ = ps := ⟨_, rfl⟩
      have HPS : Hid (ps.data.toList = pl) := by show _ = _; rw [← hps]
      rw [hps] at HRD2
      have HFC2 := Lib.hid hfc
      clear hps hfc
      obtain ⟨⟨z0, z1, z2, z3, z4⟩, ⟨r0, r1, r2, r3, r4⟩, q0, q1, q2⟩ := HGC.out _ HU.out
      go_upto_region 18 with (first
        | (go_at_call 23; (with_reducible refine (HCH.out _).mono ?_); rintro e w5 ⟨ch, bb, pb, rfl, hc, hu, hl⟩; have C5 := Lib.hid hc; have L5 : Hid (∀ i, Own ch bb pb 1 i → wb.heap.size ≤ i) := fun i hi => Nat.le_trans HU.out.size (hl i hi); have V5 := Lib.hid (HU.out.trans hu); have R5 := Lib.hid (HRL.out.grow hu); obtain ⟨⟨z0, z1, z2, z3, z4⟩, ⟨r0, r1, r2, r3, r4⟩, q0, q1, q2⟩ := HGC.out _ V5.out; clear hc hu hl)
        | (go_at_call 15; (with_reducible refine (HNW.out ch _).mono ?_); rintro e w6 ⟨q, cc, rfl, hp, hcd, hq, hcc, hu⟩; have N6 : Hid (PN wb q b p c k t ch bb pb (newCh 1 4 m) cc w6) := ⟨⟨hp, C5.out.grow hu, hcd⟩, V5.out.trans hu, fun i hi => hi.elim (fun h => L5.out i h) (fun h => by rw [h]; exact Nat.le_trans V5.out.size hcc)⟩; have R6 := Lib.hid (R5.out.grow hu); have hcv := HCV.out _ R6.out; obtain ⟨⟨z0, z1, z2, z3, z4⟩, ⟨r0, r1, r2, r3, r4⟩, q0, q1, q2⟩ := HGC.out _ N6.out.u; clear hp hcd hq hcc hu)
        | (go_at_call 24; (with_reducible refine (HPR.out _ q ch bb pb cc _ ls hlsz N6.out).mono ?_); rintro e w7 ⟨rfl, hp, hkb⟩; rw [HLS.out] at hp; have N7 := Lib.hid hp; have R7 := Lib.hid (R6.out.kb hkb); obtain ⟨⟨z0, z1, z2, z3, z4⟩, ⟨r0, r1, r2, r3, r4⟩, q0, q1, q2⟩ := HGC.out _ N7.out.u; clear hp hkb)
        | (go_at_call 21; (with_reducible refine (HRD2.out q ch bb pb cc _ N7.out).mono ?_); rintro e w8 ⟨rfl, hu, hkb⟩; have V8 := Lib.hid hu; have R8 := Lib.hid (R7.out.kb hkb); clear hu hkb))
      clear z0 z1 z2 z3 z4 r0 r1 r2 r3 r4 q0 q1 q2 hcv HCH HNW HPR HRD2
      obtain ⟨wf, hwf⟩ : ∃ wf, wf = w8.alloc (.cells #[.int .i64 (st : Int), .string ps, .int .i64 (tn : Int)] 51) := ⟨_, rfl⟩
      have hF0 : wf.heap[w8.heap.size]? = some (.cells #[.int .i64 (st : Int), .string ps, .int .i64 (tn : Int)] 51 (0, 0)) := by rw [hwf]; exact heap_alloc_new w8 _
      have VF : Hid (Upd noBlock wb wf) := by rw [hwf]; exact V8.out.alloc _
      have RF : Hid (ByteRow wf gb m 5 (fun j => (l.getD j 0).toNat)) := by rw [hwf]; exact R8.out.grow ((Upd.refl _ _).alloc _)
      rw [← hwf]
      generalize w8.heap.size = f0 at *
      have HZ : Hid (∀ W, Upd noBlock wf W → (W.cell? ⟨A, 2, none⟩ = some (.int .i64 (c : Int)) ∧ W.cell? ⟨A, 3, none⟩ = some (.int .i64 (k : Int)) ∧ W.cell? ⟨A, 4, none⟩ = some (.int .i64 (t : Int))) ∧ (W.cell? ⟨f0, 0, none⟩ = some (.int .i64 (st : Int)) ∧ W.cell? ⟨f0, 1, none⟩ = some (.string ps) ∧ W.cell? ⟨f0, 2, none⟩ = some (.int .i64 (tn : Int))) ∧ ByteRow W gb m 5 (fun j => (l.getD j 0).toNat)) := fun W hW => by
        have h9 := (hW.block _ (lt_of_block hF0) id).trans hF0
        exact ⟨(HGC.out W (VF.out.trans hW)).2.2, ⟨cell_of h9 0, cell_of h9 1, cell_of h9 2⟩, RF.out.grow hW⟩
      clear hwf hF0 V8 R8 R7 R6 R5 N7 N6 C5 L5 V5 HRL HU HCV RF
      obtain ⟨⟨a2, a3, a4⟩, -, -⟩ := HZ.out _ (Upd.refl _ _)
      have WF : Hid (Upd noBlock wf wf) := Upd.refl _ _
      have HE0 : Hid (empUp t (pieceL l sp) 0 = true) := empUp_zero _ _
      clear hsp
      go_wp2
      go_loopw [18, 19] (fun em i wr => ∃ ii : Nat, ii ≤ c ∧ i = .int .i64 (ii : Int) ∧ em = .bool (empUp t (pieceL l sp) ii) ∧ Hid (Upd noBlock wf wr)) (fun _ i _ => c - (intOf i).toNat)
      case atStart => exact ⟨0, Nat.zero_le _, rfl, by rw [HE0.out], WF⟩
      case round =>
        clear WF a2 a3 a4 HE0
        obtain ⟨ii, hi, rfl, rfl, HU⟩ := hrel
        obtain ⟨⟨a2, a3, a4⟩, -, -⟩ := HZ.out wr HU.out
        by_cases h0 : ii < c
        · have di : decide ((ii : Int) < (c : Int)) = true := decide_eq_true (by omega)
          have HES := Lib.hid (empUp_succ t (pieceL l sp) ii)
          obtain ⟨E, hE⟩ : ∃ E, empUp t (pieceL l sp) ii = E := ⟨_, rfl⟩
          rw [hE] at HES
          rw [hE]
          have u1 : (ii + 1) * sp ≤ c * sp := Nat.mul_le_mul_right sp h0
          have e3 : (ii : Int) * (sp : Int) = ((ii * sp : Nat) : Int) := by push_cast; rfl
          have e4 : ((ii : Int) + 1) * (sp : Int) = (((ii + 1) * sp : Nat) : Int) := by push_cast; rfl
          have u2 : (ii + 1) * sp = ii * sp + sp := Nat.succ_mul ii sp
          have HST : Hid (∀ j, j < sp → zer ((pieceL l sp ii).take (j + 1)) = zer ((pieceL l sp ii).take j) + pop ((l.getD (ii * sp + j) 0).toNat ^^^ 255)) := fun j hj => zer_step l sp ii j hj (by rw [hll, HCS.out]; omega)
          have HZT := Lib.hid (fun j => Nat.le_trans (zer_le ((pieceL l sp ii).take j)) (by rw [List.length_take]; exact Nat.mul_le_mul_left 8 (Nat.min_le_left j _)))
          have hcsm := HCS.out
          obtain ⟨u, hu⟩ : ∃ u, ii * sp = u := ⟨_, rfl⟩
          obtain ⟨v, hv⟩ : ∃ v, (ii + 1) * sp = v := ⟨_, rfl⟩
          simp only [hu] at e3 u2 HST
          rw [hv] at e4 u1 u2
          have hvm : v ≤ m := by omega
          clear hu hv hE u1 hcsm
          go_wp2
          go_loopw [20, 21] (fun nn kx wr => ∃ j : Nat, j ≤ sp ∧ kx = .int .i64 ((u + j : Nat) : Int) ∧ nn = .int .i64 ((zer ((pieceL l sp ii).take j) : Nat) : Int) ∧ Hid (Upd noBlock wf wr)) (fun _ kx _ => v - (intOf kx).toNat)
          case atStart => exact ⟨0, Nat.zero_le _, rfl, by rw [List.take_zero, zer_nil]; rfl, HU⟩
          case round =>
            clear HU a2 a3 a4
            obtain ⟨j, hj, rfl, rfl, HU⟩ := hrel
            obtain ⟨⟨a2, a3, a4⟩, -, HRW⟩ := HZ.out wr HU.out
            by_cases h1 : j < sp
            · have hst := HST.out j h1
              have hzt := HZT.out j
              have cx := HRW.cell (u + j) (by omega)
              obtain ⟨x, hx⟩ : ∃ x, u + j = x := ⟨_, rfl⟩
              have hxm : x < m := by omega
              have hxv : x < v := by omega
              have HXJ : Hid (x + 1 = u + (j + 1)) := by show _ = _; omega
              rw [hx] at hst
              rw [hx] at cx ⊢
              have hB := (l.getD x 0).toNat_lt
              obtain ⟨Bt, hBt⟩ : ∃ Bt, (l.getD x 0).toNat = Bt := ⟨_, rfl⟩
              rw [hBt] at hst cx hB
              obtain ⟨Y, hY⟩ : ∃ Y, Bt ^^^ 255 = Y := ⟨_, rfl⟩
              have hY2 : Y = 255 - Bt := by rw [← hY]; exact not8 ⟨Bt, hB⟩
              rw [hY] at hst
              obtain ⟨T, hT⟩ : ∃ T, zer ((pieceL l sp ii).take j) = T := ⟨_, rfl⟩
              rw [hT] at hst hzt
              rw [hT]
              have HSTJ := Lib.hid hst
              have hTb : T ≤ 2200 := by omega
              have hYb : Y < 256 := by omega
              have dx : decide ((x : Int) < (v : Int)) = true := decide_eq_true (by omega)
              have bx1 : (0 : Int) ≤ (x : Int) := by omega
              have bx2 : (x : Int) < (m : Int) := by omega
              clear hst hzt hx hBt hY hT HRW
              have hnx : bits .xor .u8 IntKind.u8.max (Bt : Int) = (Y : Int) := by
                have h := u8_xor_n 255 Bt (by omega) hB
                rw [Nat.xor_comm, not8 ⟨Bt, hB⟩, ← hY2] at h
                exact h
              clear hY2
              go_wp2
              go_loopw [20, 22] (fun n0 y0 wr => ∃ (t' y' : Nat), n0 = .int .i64 (t' : Int) ∧ y0 = .int .u8 (y' : Int) ∧ y' < 256 ∧ t' ≤ 2300 ∧ Hid (t' + pop y' = T + pop Y) ∧ Hid (Upd noBlock wf wr)) (fun _ y _ => (intOf y).toNat)
              case atStart => exact ⟨T, Y, rfl, rfl, hYb, by omega, Lib.hid rfl, HU⟩
              case round =>
                clear HU a2 a3 a4 cx hnx hB hYb
                obtain ⟨t', y', rfl, rfl, hy, ht1000, hsum, HU⟩ := hrel
                by_cases hy0 : y' = 0
                · have hyb : ((y' : Int) != 0) = false := by rw [hy0]; rfl
                  have hte : Hid (zer ((pieceL l sp ii).take (j + 1)) = t') := Lib.hid (by have h1 := hsum.out; rw [hy0] at h1; have h2 : pop 0 = 0 := rfl; have h3 := HSTJ.out; omega)
                  go_wp2
                  go_roundw
                  case rel => exact ⟨j + 1, by omega, by rw [← HXJ.out]; go_num, by rw [hte.out], HU⟩
                  case measure => simp [intOf]; omega
                · have hyb : ((y' : Int) != 0) = true := bne_iff_ne.2 (by omega)
                  have hand : bits .and .u8 (y' : Int) 1 = ((y' % 2 : Nat) : Int) := by
                    have := u8_and_n y' 1 hy (by omega)
                    rw [Nat.and_one_is_mod] at this
                    exact this
                  obtain ⟨z, hz⟩ : ∃ z, z = y' % 2 := ⟨_, rfl⟩
                  rw [← hz] at hand
                  have hz2 : z ≤ 1 := by omega
                  obtain ⟨v', hv⟩ : ∃ v', v' = y' / 2 := ⟨_, rfl⟩
                  have hve : (y' : Int) / 2 = (v' : Int) := by omega
                  have hph : Hid (pop y' = z + pop v') := Lib.hid (by rw [pop_half y' hy, ← hz, ← hv])
                  have hvlt : v' < y' := by omega
                  have ht999 : t' ≤ 2210 := by
                    have h1 := hsum.out
                    have h2 : pop Y ≤ 8 := pop_le8 Y
                    omega
                  clear hz hv
                  go_wp2
                  go_roundw
                  case rel => exact ⟨t' + z, v', by go_num, rfl, by omega, by omega, Lib.hid (by have h1 := hsum.out; have h2 := hph.out; omega), HU⟩
                  case measure => simp [intOf]; omega
            · have hjs : j = sp := by omega
              rw [hjs, pieceL_take, show u + sp = v by omega]
              have hzt := HZT.out sp
              rw [pieceL_take] at hzt
              obtain ⟨Z, hZ⟩ : ∃ Z, zer (pieceL l sp ii) = Z := ⟨_, rfl⟩
              rw [hZ] at HES hzt
              rw [hZ]
              have dv : decide ((v : Int) < (v : Int)) = false := decide_eq_false (by omega)
              obtain ⟨D, hD⟩ : ∃ D, decide (Z ≤ t) = D := ⟨_, rfl⟩
              have hDI : decide ((Z : Int) ≤ (t : Int)) = D := by rw [← hD]; exact decide_eq_decide.2 (by omega)
              rw [hD] at HES
              clear hjs hZ h1 hj HRW
              cases E with
              | true =>
                go_wp2
                go_roundw
                case rel => exact ⟨ii + 1, by omega, by go_num, by rw [HES.out, Bool.true_and], HU⟩
                case measure => simp [intOf]; omega
              | false =>
                go_wp2
                go_roundw
                case rel => exact ⟨ii + 1, by omega, by go_num, by rw [HES.out, Bool.false_and], HU⟩
                case measure => simp [intOf]; omega
        · have hic : ii = c := by omega
          rw [hic]
          have di : decide ((c : Int) < (c : Int)) = false := decide_eq_false (by omega)
          clear hic hi h0
          rcases HFC2.out with ⟨he, hf⟩ | ⟨he, hf⟩ | ⟨he, xx, N, hf, hxl, hN⟩
          · obtain ⟨f1, f2, f3⟩ := Fnd.mk.inj hf
            rw [he]
            have hpe : ps = ⟨#[]⟩ := bytes_nil ps (HPS.out.trans f2)
            have hz := (HZ.out wr HU.out).2.1
            rw [f1, f3, hpe] at hz
            have b0 : wr.cell? ⟨f0, 0, none⟩ = some (.int .i64 0) := hz.1
            have b1 : wr.cell? ⟨f0, 1, none⟩ = some (.string ⟨#[]⟩) := hz.2.1
            have b2 : wr.cell? ⟨f0, 2, none⟩ = some (.int .i64 0) := hz.2.2
            clear hz f1 f2 f3 hf he hpe
            go_wp2_with fail
            go_ret
            exact ⟨rfl, UB.out.trans (VF.out.trans HU.out)⟩
          · obtain ⟨f1, f2, f3⟩ := Fnd.mk.inj hf
            rw [he]
            have hpe : ps = ⟨#[]⟩ := bytes_nil ps (HPS.out.trans f2)
            have hz := (HZ.out wr HU.out).2.1
            rw [f1, f3, hpe] at hz
            have b0 : wr.cell? ⟨f0, 0, none⟩ = some (.int .i64 2) := hz.1
            have b1 : wr.cell? ⟨f0, 1, none⟩ = some (.string ⟨#[]⟩) := hz.2.1
            have b2 : wr.cell? ⟨f0, 2, none⟩ = some (.int .i64 0) := hz.2.2
            clear hz f1 f2 f3 hf he hpe
            go_wp2_with fail
            go_ret
            exact ⟨rfl, UB.out.trans (VF.out.trans HU.out)⟩
          · obtain ⟨f1, f2, f3⟩ := Fnd.mk.inj hf
            rw [he]
            have hz := (HZ.out wr HU.out).2.1
            rw [f1, f3] at hz
            have HSUM := Lib.hid (sum_le c (fun i hi => (hN i hi).1))
            have HSL := Lib.hid (fun i (hi : i ≤ c) => sum_le (N := N) i (fun j hj => (hN j (by omega)).1))
            have HSS : Hid (∀ i, ((List.range (i + 1)).map N).sum = ((List.range i).map N).sum + N i) := fun i => by rw [List.range_succ, List.map_append, List.sum_append]; simp
            obtain ⟨wl, hwl⟩ : ∃ wl, pageL t k c xx = wl := ⟨_, rfl⟩
            have hwz := HPLN.out xx hxl
            rw [hwl] at hwz hN
            obtain ⟨wt, hwt⟩ : ∃ wt : ByteArray, ⟨wl.toArray⟩ = wt := ⟨_, rfl⟩
            have HWT : Hid (wt.data.toList = wl) := by show _ = _; rw [← hwt]
            have hwts : wt.size = m := by rw [← hwt, HCS.out, ← hwz]; exact List.size_toArray
            have hpsn : ps.size ≤ n := by have h9 : ps.data.toList.length = ps.size := rfl; rw [HPS.out, f2, hxl] at h9; omega
            have HPG2 : Hid (∀ W, Calls Tryz.prog 19 #[.agg #[.int .i64 b, .int .i64 p, .int .i64 (c : Int), .int .i64 (k : Int), .int .i64 (t : Int)], .string ps] W fun e w' => e = .returned (.string wt) ∧ Upd noBlock W w') := fun W => by
              have h9 := HPGE.out ps W hpsn
              rw [HPS.out, f2, hwl, hwt] at h9
              exact h9
            have HN := Lib.hid hN
            obtain ⟨S, hS⟩ : ∃ S, ((List.range c).map N).sum = S := ⟨_, rfl⟩
            rw [hS] at hz
            have HS := Lib.hid hS
            have b0 : wr.cell? ⟨f0, 0, none⟩ = some (.int .i64 1) := hz.1
            have b1 : wr.cell? ⟨f0, 1, none⟩ = some (.string ps) := hz.2.1
            have HF2 : Hid (∀ W, Upd noBlock wf W → W.cell? ⟨f0, 2, none⟩ = some (.int .i64 (S : Int))) := fun W hW => by
              have h9 := (HZ.out W hW).2.1.2.2
              rw [f3, hS] at h9
              exact h9
            obtain ⟨-, ⟨r0, r1, r2, r3, r4⟩, -⟩ := HGC.out wr (VF.out.trans HU.out)
            clear hz f1 f2 f3 hf he hS hwt hwl hwz hN hxl HPGE hpsn
            go_upto_region 41 with (go_at_call 19; (with_reducible refine (HPG2.out _).mono ?_); rintro e w9 ⟨rfl, hu⟩; have HU9 := Lib.hid (HU.out.trans hu); clear hu)
            clear b0 b1 r0 r1 r2 r3 r4 HPG2 HU a2 a3 a4 di
            obtain ⟨⟨a2, a3, a4⟩, -, -⟩ := HZ.out w9 HU9.out
            go_wp2
            go_loopw [24, 25] (fun tv iv wr => ∃ ii : Nat, ii ≤ c ∧ iv = .int .i64 (ii : Int) ∧ tv = .int .i64 ((((List.range ii).map N).sum : Nat) : Int) ∧ Hid (Upd noBlock wf wr)) (fun _ i _ => c - (intOf i).toNat)
            case atStart => exact ⟨0, Nat.zero_le _, rfl, rfl, HU9⟩
            case round =>
              clear HU9 a2 a3 a4
              obtain ⟨ii, hi, rfl, rfl, HU⟩ := hrel
              obtain ⟨⟨a2, a3, a4⟩, -, HRW⟩ := HZ.out wr HU.out
              by_cases h0 : ii < c
              · have di : decide ((ii : Int) < (c : Int)) = true := decide_eq_true (by omega)
                have hsl := HSL.out ii hi
                have hct : ii * t ≤ 32 := Nat.mul_le_mul (show ii ≤ 4 by omega) t8
                have HSI := Lib.hid (HSS.out ii)
                obtain ⟨hNi, hdist⟩ := HN.out ii h0
                have u1 : (ii + 1) * sp ≤ c * sp := Nat.mul_le_mul_right sp h0
                have e3 : (ii : Int) * (sp : Int) = ((ii * sp : Nat) : Int) := by push_cast; rfl
                have u2 : (ii + 1) * sp = ii * sp + sp := Nat.succ_mul ii sp
                have hcsm := HCS.out
                have HP1 : Hid (pieceL l sp ii = (l.drop (ii * sp)).take sp) := rfl
                have HP2 : Hid (pieceL wl sp ii = (wl.drop (ii * sp)).take sp) := rfl
                obtain ⟨u, hu⟩ : ∃ u, ii * sp = u := ⟨_, rfl⟩
                rw [hu] at e3 u2 HP1 HP2
                obtain ⟨Nn, hNn⟩ : ∃ Nn, N ii = Nn := ⟨_, rfl⟩
                obtain ⟨Sm, hSm⟩ : ∃ Sm, ((List.range ii).map N).sum = Sm := ⟨_, rfl⟩
                rw [hNn] at hNi hdist HSI
                rw [hSm] at hsl HSI
                rw [hSm]
                obtain ⟨a, ha⟩ : ∃ a, u + k = a := ⟨_, rfl⟩
                obtain ⟨v, hv⟩ : ∃ v, u + sp = v := ⟨_, rfl⟩
                have hvm : v ≤ m := by omega
                have hav : a < v := by have := HPSP.out; omega
                have hlm := hll
                have hSmb : Sm ≤ 32 := by omega
                have hSI2 := HSI
                have w3 : IntKind.i64.wrap ((u : Int) + (k : Int)) = (a : Int) := by rw [show (u : Int) + (k : Int) = (a : Int) by omega, IntKind.wrap_i64]; omega
                have w4 : IntKind.i64.wrap ((u : Int) + (sp : Int)) = (v : Int) := by rw [show (u : Int) + (sp : Int) = (v : Int) by omega, IntKind.wrap_i64]; omega
                have hs1 : ∀ W, (Instr.sliceAt 49 (.slice (some ⟨gb, 0, none⟩) m m) (some (.int .i64 (u : Int))) (some (.int .i64 (a : Int))) none).run Tryz.prog W = .ok (.slice (some ⟨gb, u, none⟩) k (m - u)) W := fun W => by
                  have h9 := sliceP W gb m u a _ _ rfl rfl (by omega) (by omega) (by omega)
                  rw [show a - u = k by omega] at h9
                  exact h9
                have hs2 : ∀ W, (Instr.sliceAt 49 (.slice (some ⟨gb, 0, none⟩) m m) (some (.int .i64 (a : Int))) (some (.int .i64 (v : Int))) none).run Tryz.prog W = .ok (.slice (some ⟨gb, a, none⟩) (sp - k) (m - a)) W := fun W => by
                  have h9 := sliceP W gb m a v _ _ rfl rfl (by omega) (by omega) (by omega)
                  rw [show v - a = sp - k by omega] at h9
                  exact h9
                obtain ⟨x1, hx1⟩ : ∃ x1 : ByteArray, ⟨((l.drop u).take k).toArray⟩ = x1 := ⟨_, rfl⟩
                obtain ⟨x2, hx2⟩ : ∃ x2 : ByteArray, ⟨((l.drop a).take (sp - k)).toArray⟩ = x2 := ⟨_, rfl⟩
                have HC1 : Hid (∀ W, Upd noBlock wf W → (convert 49 9 (.slice (some ⟨gb, u, none⟩) k (m - u))).run Tryz.prog W = .ok (.string x1) W) := fun W hW => by
                  rw [← hx1]; exact ((HZ.out W hW).2.2).sub hll u k (m - u) (by omega)
                have HC2 : Hid (∀ W, Upd noBlock wf W → (convert 49 9 (.slice (some ⟨gb, a, none⟩) (sp - k) (m - a))).run Tryz.prog W = .ok (.string x2) W) := fun W hW => by
                  rw [← hx2]; exact ((HZ.out W hW).2.2).sub hll a (sp - k) (m - a) (by omega)
                have z1 : x1.size = k := by rw [← hx1]; show ((l.drop u).take k).toArray.size = k; rw [List.size_toArray, List.length_take, List.length_drop]; omega
                have z2 : x2.size = sp - k := by rw [← hx2]; show ((l.drop a).take (sp - k)).toArray.size = sp - k; rw [List.size_toArray, List.length_take, List.length_drop]; omega
                have z3 : (wt.extract u a).size = k := by rw [ByteArray.size_extract]; omega
                have z4 : (wt.extract a v).size = sp - k := by rw [ByteArray.size_extract]; omega
                have j1 : x1.data.toList ++ x2.data.toList = pieceL l sp ii := by rw [HP1.out, ← hx1, ← hx2]; show (l.drop u).take k ++ (l.drop a).take (sp - k) = _; rw [← ha, ← List.drop_drop, ← List.take_add, show k + (sp - k) = sp by omega]
                have j2 : (wt.extract u a).data.toList ++ (wt.extract a v).data.toList = pieceL wl sp ii := by
                  have e5 : (wt.extract u a).data.toList = (wl.drop u).take k := by rw [← HWT.out, ← ha, ByteArray.data_extract, Array.toList_extract]; simp
                  have e6 : (wt.extract a v).data.toList = (wl.drop a).take (sp - k) := by rw [← HWT.out, ByteArray.data_extract, Array.toList_extract, List.extract_eq_take_drop, show v - a = sp - k by omega]
                  rw [HP2.out, e5, e6, ← ha, ← List.drop_drop, ← List.take_add, show k + (sp - k) = sp by omega]
                have HWD1 := Lib.hid (fun W => refWord_any t k x1 x2 W t1' t8 k256 z1 (by rw [z2, HPSP.out]))
                have HWD2 := Lib.hid (fun W => refWord_any t k (wt.extract u a) (wt.extract a v) W t1' t8 k256 z3 (by rw [z4, HPSP.out]))
                simp only [j1] at HWD1
                simp only [j2] at HWD2
                obtain ⟨g1', hg1'⟩ : ∃ g, dbit (pieceL l sp ii) = g := ⟨_, rfl⟩
                obtain ⟨g2', hg2'⟩ : ∃ g, dbit (pieceL wl sp ii) = g := ⟨_, rfl⟩
                simp only [hg1'] at HWD1 hdist
                simp only [hg2'] at HWD2 hdist
                obtain ⟨NB, hNB⟩ : ∃ NB, 8 * k + 13 * t = NB := ⟨_, rfl⟩
                simp only [hNB] at HWD1 HWD2 hdist
                have hNB2 : NB ≤ 5000 := by omega
                have HAP : Hid (∀ W a a' c c' B B', Ints W B a NB (bl NB g1') → Ints W B' a' NB (bl NB g2') → B ≤ W.heap.size → B' ≤ W.heap.size → Calls Tryz.prog 25 #[.slice a NB c, .slice a' NB c'] W fun e w' => e = .returned (.int .i64 (Nn : Int)) ∧ Upd noBlock W w') := fun W a a' c c' B B' h h' hB hB' => by
                  have h9 := refApart_any a a' NB c c' B B' g1' g2' W h h' hB hB' hNB2
                  rw [hdist] at h9
                  exact h9
                have m1 : min (u : Int) (wt.size : Int) = (u : Int) := by omega
                have m2 : min (a : Int) (wt.size : Int) = (a : Int) := by omega
                have m3 : min (v : Int) (wt.size : Int) = (v : Int) := by omega
                have n1 : u ≤ a := by omega
                have n2 : a ≤ v := by omega
                have n3 : v ≤ wt.size := by omega
                have n4 : a ≤ wt.size := by omega
                have n5 : u ≤ wt.size := by omega
                have i1 : (u : Int) ≤ (a : Int) := by omega
                have i2 : (a : Int) ≤ (v : Int) := by omega
                have i3 : (v : Int) ≤ (wt.size : Int) := by omega
                have i4 : (a : Int) ≤ (wt.size : Int) := by omega
                have i5 : (0 : Int) ≤ (u : Int) := by omega
                have i6 : (0 : Int) ≤ (a : Int) := by omega
                have dT : decide (t < Nn) = false := decide_eq_false (by omega)
                have dT2 : decide ((t : Int) < (Nn : Int)) = false := decide_eq_false (by omega)
                have HU0 : Hid (Upd noBlock wf wr.drew) := HU.out.drew
                have HK : Hid (∀ W, Hid (Upd noBlock wf W) → W.cell? ⟨A, 3, none⟩ = some (.int .i64 (k : Int)) ∧ W.cell? ⟨A, 4, none⟩ = some (.int .i64 (t : Int)) ∧ (convert 49 9 (.slice (some ⟨gb, u, none⟩) k (m - u))).run Tryz.prog W = .ok (.string x1) W ∧ (convert 49 9 (.slice (some ⟨gb, a, none⟩) (sp - k) (m - a))).run Tryz.prog W = .ok (.string x2) W ∧ Hid (Upd noBlock wf W)) := fun W hW => ⟨(HZ.out W hW.out).1.2.1, (HZ.out W hW.out).1.2.2, HC1.out W hW.out, HC2.out W hW.out, hW⟩
                have HI2 := Lib.hid hi
                have HNI := Lib.hid hNi
                have hwts2 := Lib.hid hwts
                clear hwts hu hNn hSm ha hv hlm hSI2 hx1 hx2 j1 j2 z1 z2 z3 z4 hg1' hg2' hNB hdist HP1 HP2 u1 u2 hsl hct hcsm HRW HN HC1 HC2
                go_upto_region 46 with fail
                go_region_held3 (fun W => W.cell? ⟨A, 3, none⟩ = some (.int .i64 (k : Int)) ∧ W.cell? ⟨A, 4, none⟩ = some (.int .i64 (t : Int)) ∧ (convert 49 9 (.slice (some ⟨gb, u, none⟩) k (m - u))).run Tryz.prog W = .ok (.string x1) W ∧ (convert 49 9 (.slice (some ⟨gb, a, none⟩) (sp - k) (m - a))).run Tryz.prog W = .ok (.string x2) W ∧ Hid (Upd noBlock wf W))
                  (first | with_reducible exact HK.out _ HU | with_reducible exact HK.out _ HU0 | with_reducible exact HK.out _ V10 | with_reducible exact HK.out _ V11 | with_reducible exact HK.out _ V12)
                  (first
                    | (go_at_call 26; (with_reducible refine (HWD1.out _).mono ?_); rintro e w10 ⟨p2, c2, rfl, hi2, hu2⟩; go_split_ands; have V10 : Hid (Upd noBlock wf w10) := Upd.trans (Hid.out (by assumption)) hu2; have I2 := Lib.hid hi2; clear hi2 hu2)
                    | (go_at_call 26; (with_reducible refine (HWD2.out _).mono ?_); rintro e w11 ⟨p3, c3, rfl, hi3, hu3⟩; go_split_ands; have V11 : Hid (Upd noBlock wf w11) := Upd.trans (Hid.out (by assumption)) hu3; have I3 := Lib.hid hi3; have I2' := Lib.hid (I2.out.grow hu3 (Nat.le_refl _)); have B3 := Lib.hid hu3.size; clear hi3 hu3)
                    | (go_at_call 25; (with_reducible refine (HAP.out _ _ _ _ _ _ _ I2'.out I3.out B3.out (Nat.le_refl _)).mono ?_); rintro e w12 ⟨rfl, hu4⟩; go_split_ands; have V12 : Hid (Upd noBlock wf w12) := Upd.trans (Hid.out (by assumption)) hu4; clear hu4))
                all_goals
                  have a4 := (HZ.out w12 V12.out).1.2.2
                  clear I2 I2' I3 B3 HK HU0 HWD1 HWD2 HAP hs1 hs2
                  go_wp2
                  go_roundw
                  case rel => exact ⟨ii + 1, by omega, by go_num, by rw [HSI.out]; go_num, V12⟩
                  case measure => simp [intOf]; omega
              · have hic : ii = c := by omega
                rw [hic, HS.out]
                have di : decide ((c : Int) < (c : Int)) = false := decide_eq_false (by omega)
                have y2 := HF2.out wr HU.out
                have eb : ((S : Int) == (S : Int)) = true := beq_self_eq_true _
                clear hic HRW
                go_wp2_with fail
                go_ret
                exact ⟨rfl, UB.out.trans (VF.out.trans HU.out)⟩
theorem pageAny_walk (b p c k t : Int) (s : ByteArray) (w : World) (_ : (Lit.int .i64 b).wf = true) (_ : (Lit.int .i64 p).wf = true) (_ : (Lit.int .i64 c).wf = true) (_ : (Lit.int .i64 k).wf = true) (_ : (Lit.int .i64 t).wf = true) (hs : s.size ≤ 140737488351232) (hT : Tab w) :
    Calls Tryz.prog 6 #[.agg #[.int .i64 b, .int .i64 p, .int .i64 c, .int .i64 k, .int .i64 t], .string s] w fun e w' => e = .returned (.bool true) ∧ Below w.heap.size w w' := by
  have h : Calls Tryz.prog 6 #[geoV b p c k t, .string s] w fun e w' => e = .returned (.bool true) ∧ Upd noBlock w w' := by
    by_cases hG : GoodG b p c k t
    · obtain ⟨c', rfl⟩ : ∃ n : Nat, c = (n : Int) := ⟨c.toNat, by have := hG.c1; omega⟩
      obtain ⟨k', rfl⟩ : ∃ n : Nat, k = (n : Int) := ⟨k.toNat, by have := hG.k1; omega⟩
      obtain ⟨t', rfl⟩ : ∃ n : Nat, t = (n : Int) := ⟨t.toNat, by have := hG.t1; omega⟩
      exact pageAny_in b p c' k' t' s w hT hG hs
    · exact pageAny_bad b p c k t s w hT hG
  exact h.mono fun _ _ ⟨he, hu⟩ => ⟨he, hu.below (fun _ _ h => h)⟩
end Go.Proofs.YtnppjfaecnikpaaGreatDoor
