import Derived.Test.YtoledgpcgjdjjaaGreatDoorQGNC
import Derived.Test.YtoledgpcgjdjjaaGreatDoorQGIi
import Derived.Test.YtoledgpcgjdjjaaGreatDoorQGHu
import Derived.Deep.RegionHeld
import Derived.Deep.CutRange
import Derived.Handy
import Derived.Deep.RegionHeld3
/- Geometries: page's codeOf, the document's Good. -/
namespace Go.Proofs.YtoledgpcgjdjjaaGreatDoor
open Go.RowKit Pm
set_option linter.unusedVariables false

def geoV (b p c k t : Int) : Value := .agg #[.int .i64 b, .int .i64 p, .int .i64 c, .int .i64 k, .int .i64 t]
structure GoodG (b p c k t : Int) : Prop where
  b1 : 1 ≤ b
  b2 : b ≤ 64
  p1 : 4 ≤ p
  p2 : p ≤ 64
  p4 : p % 4 = 0
  c1 : 1 ≤ c
  c2 : c ≤ 4
  k1 : 16 ≤ k
  k2 : k ≤ 256
  t1 : 1 ≤ t
  t2 : t ≤ 8
set_option maxRecDepth 100000 in
theorem codeOf_good0 (b p c : Int) (k t : Nat) (w : World) (h0 : 1 ≤ b) (h1 : b ≤ 64) (h2 : 4 ≤ p) (h3 : p ≤ 64) (h4 : (p % 4 != 0) = false) (h5 : 1 ≤ c) (h6 : c ≤ 4) (h7 : (16 : Int) ≤ (k : Int)) (q1 : 1 ≤ t) (q2 : t ≤ 8) (q3 : k ≤ 256) :
    Calls Tryz.prog 57 #[geoV b p c (k : Int) (t : Int)] w fun e w' => ∃ g, e = .returned (.tuple #[.pointer (some ⟨g, 0, none⟩), .bool true]) ∧ w.heap.size ≤ g ∧ CodeP w' g t (k : Int) ∧ Upd noBlock w w' := by
  unfold geoV
  have HN := Lib.hid (fun W => new_any t k W q1 q2 (by omega) q3)
  have hA : Hid (Upd noBlock w (w.alloc (.cells #[.int .i64 b, .int .i64 p, .int .i64 c, .int .i64 (k : Int), .int .i64 (t : Int)] 27))) := (Upd.refl _ _).alloc _
  obtain ⟨wa, hwa⟩ : ∃ wa, wa = w.alloc (.cells #[.int .i64 b, .int .i64 p, .int .i64 c, .int .i64 (k : Int), .int .i64 (t : Int)] 27) := ⟨_, rfl⟩
  have HB : Hid (wa.heap[w.heap.size]? = some (.cells #[.int .i64 b, .int .i64 p, .int .i64 c, .int .i64 (k : Int), .int .i64 (t : Int)] 27 (0, 0))) := by rw [hwa]; exact heap_alloc_new w _
  rw [← hwa] at hA
  have z0 : wa.cell? ⟨w.heap.size, 0, none⟩ = some (.int .i64 b) := cell_of HB.out 0
  have z1 : wa.cell? ⟨w.heap.size, 1, none⟩ = some (.int .i64 p) := cell_of HB.out 1
  have z2 : wa.cell? ⟨w.heap.size, 2, none⟩ = some (.int .i64 c) := cell_of HB.out 2
  have z3 : wa.cell? ⟨w.heap.size, 3, none⟩ = some (.int .i64 (k : Int)) := cell_of HB.out 3
  have z4 : wa.cell? ⟨w.heap.size, 4, none⟩ = some (.int .i64 (t : Int)) := cell_of HB.out 4
  go_enter Tryz.func57, Tryz.ntmps57
  go_upto_region 1 with fail
  rw [← hwa]
  clear hwa
  go_wp2_with (go_at_call 83; (with_reducible refine (HN.out _).mono ?_); rintro e w2 ⟨rfl, hr2, hu2⟩; have R2 := Lib.hid hr2; have U2 := Lib.hid (hA.out.trans hu2); clear hr2 hu2)
  go_ret2
  exact ⟨_, rfl, hA.out.size, .inl R2.out, U2.out⟩
theorem codeOf_good (b p c k t : Int) (w : World) (h : GoodG b p c k t) :
    Calls Tryz.prog 57 #[geoV b p c k t] w fun e w' => ∃ g, e = .returned (.tuple #[.pointer (some ⟨g, 0, none⟩), .bool true]) ∧ w.heap.size ≤ g ∧ CodeP w' g t.toNat k ∧ Upd noBlock w w' := by
  obtain ⟨b1, b2, p1, p2, p4, c1, c2, k1, k2, t1, t2⟩ := h
  obtain ⟨k', rfl⟩ : ∃ n : Nat, k = (n : Int) := ⟨k.toNat, by omega⟩
  obtain ⟨t', rfl⟩ : ∃ n : Nat, t = (n : Int) := ⟨t.toNat, by omega⟩
  exact codeOf_good0 b p c k' t' w b1 b2 p1 p2 (by rw [bne_eq_false_iff_eq]; exact p4) c1 c2 k1 (by omega) (by omega) (by omega)
end Go.Proofs.YtoledgpcgjdjjaaGreatDoor

/- The sizes of a geometry: page's payloadBytes and Raw, the document's Sizes. -/
namespace Go.Proofs.YtoledgpcgjdjjaaGreatDoor
open Go.RowKit Pm
set_option linter.unusedVariables false

structure GBk (w : World) (g : Nat) (b p c k t : Int) : Prop where
  blk : w.heap[g]? = some (.cells #[.int .i64 b, .int .i64 p, .int .i64 c, .int .i64 k, .int .i64 t] 27 (0, 0))
theorem GBk.c0 {w : World} {g : Nat} {b p c k t : Int} (h : GBk w g b p c k t) : w.cell? ⟨g, 0, none⟩ = some (.int .i64 b) := cell_of h.blk 0
theorem GBk.c1 {w : World} {g : Nat} {b p c k t : Int} (h : GBk w g b p c k t) : w.cell? ⟨g, 1, none⟩ = some (.int .i64 p) := cell_of h.blk 1
theorem GBk.c2 {w : World} {g : Nat} {b p c k t : Int} (h : GBk w g b p c k t) : w.cell? ⟨g, 2, none⟩ = some (.int .i64 c) := cell_of h.blk 2
theorem GBk.c3 {w : World} {g : Nat} {b p c k t : Int} (h : GBk w g b p c k t) : w.cell? ⟨g, 3, none⟩ = some (.int .i64 k) := cell_of h.blk 3
theorem GBk.c4 {w : World} {g : Nat} {b p c k t : Int} (h : GBk w g b p c k t) : w.cell? ⟨g, 4, none⟩ = some (.int .i64 t) := cell_of h.blk 4
theorem GBk.upd {w w' : World} {R : Nat → Prop} {g : Nat} {b p c k t : Int} (h : GBk w g b p c k t) (hu : Upd R w w') (hR : ¬ R g) : GBk w' g b p c k t :=
  ⟨(hu.block g (lt_of_block h.blk) hR).trans h.blk⟩
theorem GBk.keep {w w' : World} {g : Nat} {b p c k t : Int} (h : GBk w g b p c k t) (hu : Upd noBlock w w') : GBk w' g b p c k t := h.upd hu id
theorem GBk.drew {w : World} {g : Nat} {b p c k t : Int} (h : GBk w g b p c k t) : GBk w.drew g b p c k t := ⟨h.blk⟩

structure StR (w : World) (b p : Int) (c k t cc : Nat) (W : World) : Prop where
  g : GBk W w.heap.size b p c k t
  cp : CodeP W cc t (k : Int)
  u : Upd noBlock w W
  far : w.heap.size < cc
theorem StR.quiet {w : World} {b p : Int} {c k t cc : Nat} {W W' : World} (h : StR w b p c k t cc W) (hu : Upd noBlock W W') : StR w b p c k t cc W' :=
  ⟨h.g.keep hu, h.cp.keep hu, h.u.trans hu, h.far⟩
theorem StR.drew {w : World} {b p : Int} {c k t cc : Nat} {W : World} (h : StR w b p c k t cc W) : StR w b p c k t cc W.drew := h.quiet ((Upd.refl _ _).drew)
theorem StR.par {w : World} {b p : Int} {c k t cc : Nat} {W W' : World} (h : StR w b p c k t cc W) (hm : Made W' cc t (k : Int)) (hu : Upd (oneBlock cc) W W') : StR w b p c k t cc W' :=
  ⟨h.g.upd hu (fun e => by have := h.far; exact absurd e (by show ¬ w.heap.size = cc; omega)), .inr hm, h.u.step hu fun i hi e => absurd hi (by have := h.far; have e' : i = cc := e; omega), h.far⟩

set_option maxRecDepth 100000 in
theorem payload_any (b p c k t : Int) (w : World) (h : GoodG b p c k t) :
    Calls Tryz.prog 59 #[geoV b p c k t] w fun e w' => e = .returned (.int .i64 (c * k - 7)) ∧ Upd noBlock w w' := by
  obtain ⟨b1, b2, p1, p2, p4, c1, c2, k1, k2, t1, t2⟩ := h
  have m1 : 16 ≤ c * k := by have := Int.mul_le_mul c1 k1 (by omega) (by omega); omega
  have m2 : c * k ≤ 1024 := by have := Int.mul_le_mul c2 k2 (by omega) (by omega); omega
  obtain ⟨m, hm⟩ : ∃ m, m = c * k := ⟨_, rfl⟩
  rw [← hm] at m1 m2 ⊢
  have e1 : IntKind.i64.wrap (c * k) = m := by rw [← hm]; rw [IntKind.wrap_i64]; omega
  clear hm
  unfold geoV
  go_enter Tryz.func59, Tryz.ntmps59
  go_wp2_with fail
  go_ret
  exact ⟨congrArg (fun x => Ending.returned (.int .i64 x)) (show m - 3 - 4 = m - 7 by omega), (Upd.refl _ _).alloc _⟩

set_option maxRecDepth 100000 in
set_option maxHeartbeats 1600000 in
theorem raw_good (b p : Int) (c k t : Nat) (w : World) (h : GoodG b p c k t) :
    Calls Tryz.prog 32 #[geoV b p (c : Int) (k : Int) (t : Int)] w fun e w' =>
      e = .returned (.tuple #[.int .i64 ((c * (k + (13 * t + 7) / 8) : Nat) : Int), .int .i64 ((c : Int) * k - 7)]) ∧ Upd noBlock w w' := by
  have HCO := Lib.hid (fun W => codeOf_good b p c k t W h)
  have HPAY := Lib.hid (fun W => payload_any b p c k t W h)
  have HPAR := Lib.hid (fun cc W (hW : CodeP W cc t (k : Int)) => parity_any cc t (k : Int) W hW (by have := h.t1; omega) (by have := h.t2; omega))
  obtain ⟨b1, b2, p1, p2, p4, c1, c2, k1, k2, t1, t2⟩ := h
  have ht : (t : Int).toNat = t := Int.toNat_natCast t
  rw [ht] at HCO
  clear ht p4
  obtain ⟨q, hq⟩ : ∃ q, (13 * t + 7) / 8 = q := ⟨_, rfl⟩
  have q2 : q ≤ 13 := by omega
  rw [hq] at HPAR ⊢
  clear hq
  have m2 : c * (k + q) ≤ 1100 := Nat.le_trans (Nat.mul_le_mul (show c ≤ 4 by omega) (show k + q ≤ 275 by omega)) (by decide)
  have e0 : ((c : Int) * ((k : Int) + (q : Int))) = ((c * (k + q) : Nat) : Int) := by push_cast; rfl
  obtain ⟨m, hm⟩ : ∃ m, m = c * (k + q) := ⟨_, rfl⟩
  rw [← hm] at m2 e0 ⊢
  have e1 : IntKind.i64.wrap ((c : Int) * ((k : Int) + (q : Int))) = (m : Int) := by rw [e0]; rw [IntKind.wrap_i64]; omega
  obtain ⟨y, hy⟩ : ∃ y, y = (c : Int) * (k : Int) - 7 := ⟨_, rfl⟩
  rw [← hy] at HPAY ⊢
  clear hm hy e0 m2
  have s1 : IntKind.i64.wrap ((k : Int) + (q : Int)) = (k : Int) + (q : Int) := by rw [IntKind.wrap_i64]; omega
  unfold geoV at *
  obtain ⟨wa, hwa⟩ : ∃ wa, wa = w.alloc (.cells #[.int .i64 b, .int .i64 p, .int .i64 (c : Int), .int .i64 (k : Int), .int .i64 (t : Int)] 27) := ⟨_, rfl⟩
  have GA : Hid (GBk wa w.heap.size b p c k t) := by rw [hwa]; exact ⟨heap_alloc_new w _⟩
  have UA : Hid (Upd noBlock w wa) := by rw [hwa]; exact (Upd.refl _ _).alloc _
  have SA : Hid (wa.heap.size = w.heap.size + 1) := by rw [hwa]; exact Array.size_push ..
  have z0 := GA.out.c0
  have z1 := GA.out.c1
  have z2 := GA.out.c2
  have z3 := GA.out.c3
  have z4 := GA.out.c4
  go_enter Tryz.func32, Tryz.ntmps32
  go_upto_region 1 with fail
  rw [← hwa]
  clear hwa
  go_upto_region 4 with (go_at_call 57; (with_reducible refine (HCO.out _).mono ?_); rintro e w2 ⟨g, rfl, hg, hr2, hu2⟩; have SR : Hid (StR w b p c k t g w2) := ⟨GA.out.keep hu2, hr2, UA.out.trans hu2, by have := SA.out; omega⟩; clear hg hr2 hu2)
  clear z0 z1 z2 z3 z4 GA UA SA
  have HK : Hid (∀ W, Hid (StR w b p c k t g W) → W.cell? ⟨w.heap.size, 0, none⟩ = some (.int .i64 b) ∧ W.cell? ⟨w.heap.size, 1, none⟩ = some (.int .i64 p) ∧ W.cell? ⟨w.heap.size, 2, none⟩ = some (.int .i64 (c : Int)) ∧ W.cell? ⟨w.heap.size, 3, none⟩ = some (.int .i64 (k : Int)) ∧ W.cell? ⟨w.heap.size, 4, none⟩ = some (.int .i64 (t : Int)) ∧ Hid (StR w b p c k t g W)) := fun W h => ⟨h.out.g.c0, h.out.g.c1, h.out.g.c2, h.out.g.c3, h.out.g.c4, h⟩
  go_region_held3 (fun W => W.cell? ⟨w.heap.size, 0, none⟩ = some (.int .i64 b) ∧ W.cell? ⟨w.heap.size, 1, none⟩ = some (.int .i64 p) ∧ W.cell? ⟨w.heap.size, 2, none⟩ = some (.int .i64 (c : Int)) ∧ W.cell? ⟨w.heap.size, 3, none⟩ = some (.int .i64 (k : Int)) ∧ W.cell? ⟨w.heap.size, 4, none⟩ = some (.int .i64 (t : Int)) ∧ Hid (StR w b p c k t g W))
    (first | exact HK.out _ SR | exact HK.out _ SR.out.drew | exact HK.out _ SW)
    (first
      | (go_at_call 58; go_split_ands; (with_reducible refine (HPAR.out _ _ (StR.cp (Hid.out (by assumption)))).mono ?_); rintro e w5 ⟨rfl, hm5, hu5, _⟩; have SW : Hid (StR w b p c k t g w5) := StR.par (Hid.out (by assumption)) hm5 hu5; clear hm5 hu5)
      | (go_at_call 59; go_split_ands; (with_reducible refine (HPAY.out _).mono ?_); rintro e w6 ⟨rfl, hu6⟩; have SW : Hid (StR w b p c k t g w6) := StR.quiet (Hid.out (by assumption)) hu6; clear hu6))
  all_goals
    go_wp2_with fail
    go_ret2
    exact ⟨rfl, SW.out.u⟩
end Go.Proofs.YtoledgpcgjdjjaaGreatDoor
