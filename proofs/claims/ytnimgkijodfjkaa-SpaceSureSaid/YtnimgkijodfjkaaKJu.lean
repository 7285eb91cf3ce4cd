/- SpaceSure, walked. -/
import Derived.Test.YtnimgkijodfjkaaKJt
import Derived.Test.YtnimgkijodfjkaaKAr
namespace Go.Proofs.Ytnimgkijodfjkaa
open Go.RowKit Pm
set_option linter.unusedVariables false

theorem OwnV.grownJ {w w' : World} {B : Nat} {v : Value} {xs : List Int} {u : Option Nat} (h : Pr.OwnV w B v xs) (hg : w.grownBy w' u) (ha : ∀ g, v.ownBlock = some g → u ≠ some g) : Pr.OwnV w' B v xs := by
  obtain ⟨hl, h⟩ := h
  refine ⟨hl, ?_⟩
  rcases h with h | ⟨g, cap, cur, h, hb, hc, hr⟩
  · exact .inl h
  · exact .inr ⟨g, cap, cur, h, hb, (hg.block g (lt_of_block hc) (fun e => ha g (by rw [h]; rfl) e.symm)).trans hc, hr⟩
def ApartV (v u : Value) : Prop := ∀ g, v.ownBlock = some g → u.ownBlock ≠ some g
/-- the two lists that the law makes: so long, their numbers within bounds -/
structure Two (w wr : World) (va vb : Value) (xs zs : List Int) (i : Nat) (y : Int) : Prop where
  a : Pr.OwnV wr w.heap.size va xs
  b : Pr.OwnV wr w.heap.size vb zs
  la : xs.length = i
  lb : zs.length = i
  ka : Keys xs
  kb : ∀ z ∈ zs, 1 ≤ z ∧ z ≤ y
  ap : ApartV va vb
theorem Two.nil (w wr : World) (y : Int) : Two w wr (.slice none 0 0) (.slice none 0 0) [] [] 0 y := ⟨Pr.OwnV.nil _ _, Pr.OwnV.nil _ _, rfl, rfl, fun _ h => (by cases h), fun _ h => (by cases h), fun _ h => (by cases h)⟩
theorem Two.upd {w wr w' : World} {va vb : Value} {xs zs : List Int} {i : Nat} {y : Int} (h : Two w wr va vb xs zs i y) (hu : Upd noBlock wr w') : Two w w' va vb xs zs i y := ⟨h.a.grow hu, h.b.grow hu, h.la, h.lb, h.ka, h.kb, h.ap⟩
/-- behind both appends -/
theorem Two.more {w wr w3 w5 : World} {va vb v3 v5 : Value} {xs zs : List Int} {i : Nat} {y x z : Int} {O O' : Obj} (h : Two w wr va vb xs zs i y)
    (o3 : Pr.OwnV w3 w.heap.size v3 (xs ++ [x])) (g3 : (wr.alloc O).grownBy w3 va.ownBlock) (l3 : v3.ownBlock = va.ownBlock ∨ v3.ownBlock = some (wr.alloc O).heap.size)
    (o5 : Pr.OwnV w5 w.heap.size v5 (zs ++ [z])) (g5 : (w3.alloc O').grownBy w5 vb.ownBlock) (l5 : v5.ownBlock = vb.ownBlock ∨ v5.ownBlock = some (w3.alloc O').heap.size)
    (hx : 1 ≤ x ∧ x ≤ 64) (hz : 1 ≤ z ∧ z ≤ y) : Two w w5 v3 v5 (xs ++ [x]) (zs ++ [z]) (i + 1) y := by
  have s1 : (wr.alloc O).heap.size = wr.heap.size + 1 := by simp
  have s2 : (w3.alloc O').heap.size = w3.heap.size + 1 := by simp
  have nb : ∀ g, vb.ownBlock = some g → g < wr.heap.size := fun g e => (h.b.lt g e).2
  have n3 : ∀ g, v3.ownBlock = some g → g < w3.heap.size := fun g e => (o3.lt g e).2
  have ap3 : ∀ g, v3.ownBlock = some g → vb.ownBlock ≠ some g := fun g e e' => by
    rcases l3 with l | l
    · exact h.ap g (l ▸ e) e'
    · rw [l] at e
      have := nb g e'
      have e2 : (wr.alloc O).heap.size = g := by simpa using e
      omega
  refine ⟨OwnV.grownJ (o3.grow ((Upd.refl _ _).alloc O')) g5 (fun g e e' => ap3 g e e'), o5, by simp [h.la], by simp [h.lb], ?_, ?_, ?_⟩
  · intro q hq
    rcases List.mem_append.1 hq with m | m
    · exact h.ka q m
    · have : q = x := by simpa using m
      rw [this]; exact hx
  · intro q hq
    rcases List.mem_append.1 hq with m | m
    · exact h.kb q m
    · have : q = z := by simpa using m
      rw [this]; exact hz
  · intro g e e'
    rcases l5 with l | l
    · exact ap3 g e (l ▸ e')
    · rw [l] at e'
      have := n3 g e
      have e2 : (w3.alloc O').heap.size = g := by simpa using e'
      omega
theorem own_capJ {w : World} {B : Nat} {a : Option Addr} {n c : Nat} {xs : List Int} (h : Pr.OwnV w B (.slice a n c) xs) : xs.length ≤ c := own_cap h
theorem ints_takeJ {w : World} {B : Nat} {a : Option Addr} {n m : Nat} {xs : List Int} (h : Ints w B a n xs) (hm : m ≤ n) : Ints w B a m (xs.take m) := by
  refine ⟨by rw [List.length_take, h.1]; omega, fun h0 => ?_⟩
  obtain ⟨g, off, rfl, hg, hc⟩ := h.2 (by omega)
  refine ⟨g, off, rfl, hg, fun i hi => ?_⟩
  rw [hc i (by omega)]
  congr 2
  rw [List.getD_eq_getElem?_getD, List.getD_eq_getElem?_getD, List.getElem?_take_of_lt hi]
set_option maxRecDepth 100000 in
set_option maxHeartbeats 1600000 in
theorem spaceSure_upd (b p c k t : Int) (a1 a2 : Option Addr) (n1 n2 c1 c2 : Nat) (xs1 xs2 : List Int) (w : World) (hr1 : Ints w w.heap.size a1 n1 xs1) (hr2 : Ints w w.heap.size a2 n2 xs2) (hn1 : n1 ≤ maxLen) (hn2 : n2 ≤ maxLen) :
    Calls Try.prog 4 #[.agg #[.int .i64 b, .int .i64 p, .int .i64 c, .int .i64 k, .int .i64 t], .slice a1 n1 c1, .slice a2 n2 c2] w fun e w' => e = .returned (.bool true) ∧ Upd noBlock w w' := by
  obtain ⟨i0, hi0, hz0, hz1, hz2⟩ := Pr.intParts7
  obtain ⟨j, y, s, h, r, ok, h1, h2, h3⟩ := plans_more b p c k t
  have HSP := Lib.hid speaks17_any
  have HR1 := Lib.hid hr1
  have HR2 := Lib.hid hr2
  have m1 : n1 ≤ 9223372036854775807 := by simp only [maxLen] at hn1; omega
  have m2 : n2 ≤ 9223372036854775807 := by simp only [maxLen] at hn2; omega
  have HFT : Hid (∀ (N a a' : _) (n cc cc' B B' : Nat) (xs zs : List Int) (W : World), 0 < cap h r → n ≤ cap h r → N = n → Ints W B a n xs → B ≤ W.heap.size → Ints W B' a' n zs → B' ≤ W.heap.size → Keys xs → (∀ z ∈ zs, 1 ≤ z ∧ z ≤ y) → Calls Try.prog 11 #[planV j (h : Int) (r : Int) y s, .slice a n cc, .slice a' n cc'] W fun e w' => e = .returned (.bool true) ∧ Upd noBlock W w') :=
    fun N a a' n cc cc' B B' xs zs W h0 hn _ q1 q2 q3 q4 q5 q6 => by
      obtain ⟨r1, r2, r3, r4, r5, _⟩ := h3 h0
      exact fits_any j s y h r a a' n cc cc' B B' xs zs W r3 r1 r2 r4 r5 hn q1 q2 q3 q4 q5 q6
  have HN6 : Hid (0 < cap h r → cap h r ≤ 600 ∧ 249 ≤ y) := fun h0 => ⟨(h3 h0).2.2.2.2.2, (h3 h0).2.2.2.1⟩
  clear h3 hr1 hr2 hn1 hn2
  unfold CallsOf CallsCap geoV planV at *
  have HPL := Lib.hid (fun W => plan_any b p c k t j h r y s ok W h1)
  have HCP := Lib.hid h2
  clear h1 h2
  generalize cap h r = N at *
  obtain ⟨wa, hwa⟩ : ∃ wa, wa = w.alloc (.cells #[.int .i64 b, .int .i64 p, .int .i64 c, .int .i64 k, .int .i64 t] 22) := ⟨_, rfl⟩
  have HG : Hid (wa.heap[w.heap.size]? = some (.cells #[.int .i64 b, .int .i64 p, .int .i64 c, .int .i64 k, .int .i64 t] 22 (0, 0))) := by rw [hwa]; exact heap_alloc_new w _
  have UA : Hid (Upd noBlock w wa) := by rw [hwa]; exact (Upd.refl _ _).alloc _
  go_enter Try.func4, Try.ntmps4
  go_upto_region 1 with fail
  rw [← hwa]
  clear hwa
  go_upto_region 3 with (go_at_call 5; (with_reducible refine (HSP.out _).mono ?_); rintro e w1 ⟨rfl, hu⟩; have U1 := Lib.hid hu; have g1 := (hu.block _ (lt_of_block HG.out) id).trans HG.out; have hb1 := fun i => cell_of g1 i; clear hu g1)
  go_upto_region 4 with (go_at_call 10; (with_reducible refine (HPL.out _).mono ?_); rintro e w2 ⟨rfl, hu⟩; have U2 := Lib.hid (U1.out.trans hu); clear hu hb1)
  obtain ⟨wp, hwp⟩ : ∃ wp, wp = (w2.alloc (.cells #[.int .i64 j, .int .i64 (h : Int), .int .i64 (r : Int), .int .i64 y, .int .i64 s] 25)).alloc (.cells #[.int .i64 j, .int .i64 (h : Int), .int .i64 (r : Int), .int .i64 y, .int .i64 s] 30) := ⟨_, rfl⟩
  have HP : Hid (wp.heap[w2.heap.size]? = some (.cells #[.int .i64 j, .int .i64 (h : Int), .int .i64 (r : Int), .int .i64 y, .int .i64 s] 25 (0, 0))) := by rw [hwp]; exact block_alloc (heap_alloc_new w2 _) _
  have UP : Hid (Upd noBlock w wp) := by rw [hwp]; exact ((UA.out.trans U2.out).alloc _).alloc _
  rw [← hwp]
  clear hwp
  have HK : Hid (∀ W, Upd noBlock wp W → W.cell? ⟨w2.heap.size, 0, none⟩ = some (.int .i64 j) ∧ W.cell? ⟨w2.heap.size, 1, none⟩ = some (.int .i64 (h : Int)) ∧ W.cell? ⟨w2.heap.size, 2, none⟩ = some (.int .i64 (r : Int)) ∧ W.cell? ⟨w2.heap.size, 3, none⟩ = some (.int .i64 y) ∧ W.cell? ⟨w2.heap.size, 4, none⟩ = some (.int .i64 s) ∧ Hid (Upd noBlock wp W)) := fun W hW => by
    have g := (hW.block _ (lt_of_block HP.out) id).trans HP.out
    exact ⟨cell_of g 0, cell_of g 1, cell_of g 2, cell_of g 3, cell_of g 4, hW⟩
  obtain ⟨z0, z1, z2, z3, z4, _⟩ := HK.out wp (Upd.refl _ _)
  clear HSP HPL HG UA U1 U2
  go_upto_region 5 with (go_at_call 8; (with_reducible refine (HCP.out _).mono ?_); rintro e w3 ⟨rfl, hu⟩; have U3 := Lib.hid hu; clear hu)
  clear z0 z1 z2 z3 z4 HCP
  by_cases n0 : N = 0
  · subst n0
    clear HFT HN6
    go_wp2_with fail
    go_ret
    exact ⟨rfl, UP.out.trans U3.out⟩
  by_cases e1 : n1 = 0
  · subst e1
    have q0 : ((N : Int) == 0) = false := by rw [beq_eq_false_iff_ne]; omega
    clear HFT HN6
    go_wp2_with fail
    go_ret
    exact ⟨rfl, UP.out.trans U3.out⟩
  by_cases e2 : n2 = 0
  · subst e2
    have q0 : ((N : Int) == 0) = false := by rw [beq_eq_false_iff_ne]; omega
    have q1 : ((n1 : Int) == 0) = false := by rw [beq_eq_false_iff_ne]; omega
    clear HFT HN6
    go_wp2_with fail
    go_ret
    exact ⟨rfl, UP.out.trans U3.out⟩
  have q0 : ((N : Int) == 0) = false := by rw [beq_eq_false_iff_ne]; omega
  have q1 : ((n1 : Int) == 0) = false := by rw [beq_eq_false_iff_ne]; omega
  have q2 : ((n2 : Int) == 0) = false := by rw [beq_eq_false_iff_ne]; omega
  obtain ⟨hN6, hy⟩ := HN6.out (by omega)
  go_wp2_with fail
  clear q0 q1 q2
  go_loopw [10, 11, 12] (fun va vb iv wr => ∃ (i : Nat) (xs zs : List Int), i ≤ N ∧ iv = .int .i64 (i : Int) ∧ Hid (Two wp wr va vb xs zs i y) ∧ Hid (Upd noBlock wp wr)) (fun _ _ iv _ => N - (intOf iv).toNat)
  case atStart => exact ⟨0, [], [], Nat.zero_le _, rfl, Two.nil _ _ _, U3.out⟩
  case round =>
    skip
    obtain ⟨i, xs, zs, hi, rfl, HT, HU⟩ := hrel
    by_cases h0 : i < N
    · obtain ⟨g1, o1, hag1, _, hc1⟩ := (HR1.out.grow (UP.out.trans HU.out) (Nat.le_refl _)).cell (by omega)
      subst hag1
      obtain ⟨g2, o2, hag2, _, hc2⟩ := (HR2.out.grow (UP.out.trans HU.out) (Nat.le_refl _)).cell (by omega)
      subst hag2
      obtain ⟨i1, hi1⟩ : ∃ i1, i % n1 = i1 := ⟨_, rfl⟩
      obtain ⟨i2, hi2⟩ : ∃ i2, i % n2 = i2 := ⟨_, rfl⟩
      have l1 : i1 < n1 := hi1 ▸ Nat.mod_lt _ (by omega)
      have l2 : i2 < n2 := hi2 ▸ Nat.mod_lt _ (by omega)
      have d1 : (i : Int) % (n1 : Int) = (i1 : Int) := by rw [← hi1]; push_cast; rfl
      have d2 : (i : Int) % (n2 : Int) = (i2 : Int) := by rw [← hi2]; push_cast; rfl
      have t1 : (i : Int).tmod (n1 : Int) = (i1 : Int) := by rw [Int.tmod_eq_emod_of_nonneg (by omega)]; exact d1
      have t2 : (i : Int).tmod (n2 : Int) = (i2 : Int) := by rw [Int.tmod_eq_emod_of_nonneg (by omega)]; exact d2
      have k1 := hc1 i1 l1
      have k2 := hc2 i2 l2
      obtain ⟨x0, hx0⟩ : ∃ x, xs1.getD i1 0 = x := ⟨_, rfl⟩
      obtain ⟨v0, hv0⟩ : ∃ x, xs2.getD i2 0 = x := ⟨_, rfl⟩
      rw [hx0] at k1
      rw [hv0] at k2
      have f1 : ¬ (n1 : Int) = 0 := by omega
      have f2 : ¬ (n2 : Int) = 0 := by omega
      have p1 : (0 : Int) ≤ (i1 : Int) := by omega
      have p2 : (0 : Int) ≤ (i2 : Int) := by omega
      have p3 : (i1 : Int) < (n1 : Int) := by omega
      have p4 : (i2 : Int) < (n2 : Int) := by omega
      clear hc1 hc2 hi1 hi2 hx0 hv0
      go_upto_region 11 with fail
      go_quiet (fail)
      clear t1 t2 d1 d2 f1 f2 p1 p2 p3 p4 k1 k2 l1 l2
      have TW := Lib.hid (HT.out.upd ((Upd.refl noBlock wr).drewN nq))
      have UW : Hid (Upd noBlock wp (wr.drewN nq)) := HU.out.drewN nq
      generalize wr.drewN nq = wd at *
      clear HT HU
      obtain ⟨_, _, _, z3, _, _⟩ := HK.out wd UW.out
      have HNB : Hid (xs.length ≤ 600 ∧ zs.length ≤ 600) := ⟨by rw [TW.out.la]; omega, by rw [TW.out.lb]; omega⟩
      have A1 : Hid (∀ x : Int, Pr.OwnV (wd.alloc (.cells #[.int .i64 x] 3)) wp.heap.size _ xs) := fun x => TW.out.a.grow ((Upd.refl noBlock wd).alloc (.cells #[.int .i64 x] 3))
      have V1 : Hid (∀ x : Int, Upd noBlock wp (wd.alloc (.cells #[.int .i64 x] 3))) := fun x => UW.out.alloc (.cells #[.int .i64 x] 3)
      have hb0 := UW.out.size
      rcases (show x0 < 1 ∨ (1 ≤ x0 ∧ 64 < x0) ∨ (1 ≤ x0 ∧ x0 ≤ 64) by omega) with q | ⟨q, q'⟩ | ⟨q, q'⟩ <;> rcases (show v0 < 1 ∨ (1 ≤ v0 ∧ y < v0) ∨ (1 ≤ v0 ∧ v0 ≤ y) by omega) with u | ⟨u, u'⟩ | ⟨u, u'⟩
      all_goals
        go_wp2_with (first
          | (at_builtin; refine wpList_append_ints _ rfl (.tmp 71) (.tmp 73) _ rfl wp.heap.size 3 i0 _ Try.underlying37 hi0 hz0 hz1 hz2 rfl _ xs.length (vals xs) rfl (A1.out _) (wd.heap.size + 1) (some ⟨wd.heap.size, 0, none⟩) 1 1 [_] rfl (Pr.ints_new wd _) (by have := HNB.out; simp only [maxLen]; omega) (by have := HNB.out; omega) (by simp; omega) ?_; intro v3 w3' own3 gr3 lie3;
              have O3 := Lib.hid (Pr.OwnV.snoc own3); have G3 := Lib.hid gr3; have L3 := Lib.hid lie3; have V3 := Lib.hid ((V1.out _).grownOwn gr3 (fun i hi => ((A1.out 0).lt i hi).1));
              have B3 : Hid (∀ z : Int, Pr.OwnV (w3'.alloc (.cells #[.int .i64 z] 3)) wp.heap.size _ zs) := fun z => ((OwnV.grownJ (TW.out.b.grow ((Upd.refl noBlock wd).alloc _)) gr3 (fun g e e' => TW.out.ap g e' e)).grow ((Upd.refl noBlock w3').alloc (.cells #[.int .i64 z] 3)));
              have hb3 := V3.out.size; clear own3 gr3 lie3)
          | (at_builtin; refine wpList_append_ints _ rfl (.tmp 75) (.tmp 77) _ rfl wp.heap.size 3 i0 _ Try.underlying37 hi0 hz0 hz1 hz2 rfl _ zs.length (vals zs) rfl (B3.out _) (w3'.heap.size + 1) (some ⟨w3'.heap.size, 0, none⟩) 1 1 [_] rfl (Pr.ints_new w3' _) (by have := HNB.out; simp only [maxLen]; omega) (by have := HNB.out; omega) (by simp; omega) ?_; intro v5 w5 own5 gr5 lie5;
              have M5 := Lib.hid (TW.out.more O3.out G3.out L3.out (Pr.OwnV.snoc own5) gr5 lie5 ⟨by omega, by omega⟩ ⟨by omega, by omega⟩);
              have V5 := Lib.hid ((V3.out.alloc _).grownOwn gr5 (fun i hi => ((B3.out 0).lt i hi).1)); clear own5 gr5 lie5))
        go_roundw
        case rel => exact ⟨i + 1, _, _, by omega, by go_num, M5.out, V5.out⟩
        case measure => simp [intOf] <;> omega
    · have hiN : i = N := by omega
      obtain ⟨pa, ca, rfl, ia, _, _⟩ := HT.out.a.sl
      obtain ⟨pb, cb, rfl, ib, _, _⟩ := HT.out.b.sl
      have la := HT.out.la
      have lb := HT.out.lb
      have hca : xs.length ≤ ca := own_capJ HT.out.a
      have hcb : zs.length ≤ cb := own_capJ HT.out.b
      have F1 : Hid (∀ W, Upd noBlock wr W → Calls Try.prog 11 #[.agg #[.int .i64 j, .int .i64 (h : Int), .int .i64 (r : Int), .int .i64 y, .int .i64 s], .slice pa xs.length ca, .slice pb zs.length cb] W fun e w' => e = .returned (.bool true) ∧ Upd noBlock W w') := fun W hW => by
        have hz : zs.length = xs.length := lb.trans la.symm
        rw [hz]
        exact HFT.out xs.length pa pb xs.length ca cb wr.heap.size wr.heap.size xs zs W (by omega) (by omega) rfl (ia.grow hW (Nat.le_refl _)) hW.size (by have q := ib.grow hW (Nat.le_refl _); rw [hz] at q; exact q) hW.size HT.out.ka HT.out.kb
      obtain ⟨m, hm⟩ : ∃ m, i / 2 = m := ⟨_, rfl⟩
      have F2 : Hid (∀ W, Upd noBlock wr W → Calls Try.prog 11 #[.agg #[.int .i64 j, .int .i64 (h : Int), .int .i64 (r : Int), .int .i64 y, .int .i64 s], .slice pa m ca, .slice pb m cb] W fun e w' => e = .returned (.bool true) ∧ Upd noBlock W w') := fun W hW => by
        exact HFT.out m pa pb m ca cb wr.heap.size wr.heap.size (xs.take m) (zs.take m) W (by omega) (by omega) rfl (ints_takeJ (ia.grow hW (Nat.le_refl _)) (by omega)) hW.size (ints_takeJ (ib.grow hW (Nat.le_refl _)) (by omega)) hW.size (fun q hq => HT.out.ka q (List.mem_of_mem_take hq)) (fun q hq => HT.out.kb q (List.mem_of_mem_take hq))
      have hm2 : (N : Int) / 2 = (m : Int) := by omega
      have hm3 : (N : Int).tdiv 2 = (m : Int) := by rw [Int.tdiv_eq_ediv_of_nonneg (by omega)]; exact hm2
      have hm4 : m ≤ ca := by omega
      have hm5 : m ≤ cb := by omega
      have hm6 : IntKind.i64.wrap (m : Int) = (m : Int) := by rw [IntKind.wrap_i64]; omega
      go_upto_region 17 with fail
      have HU2 : Hid (Upd noBlock wr wr) := Upd.refl _ _
      have HKK : Hid (∀ W, Upd noBlock wr W → W.cell? ⟨w2.heap.size, 0, none⟩ = some (.int .i64 j) ∧ W.cell? ⟨w2.heap.size, 1, none⟩ = some (.int .i64 (h : Int)) ∧ W.cell? ⟨w2.heap.size, 2, none⟩ = some (.int .i64 (r : Int)) ∧ W.cell? ⟨w2.heap.size, 3, none⟩ = some (.int .i64 y) ∧ W.cell? ⟨w2.heap.size, 4, none⟩ = some (.int .i64 s) ∧ Hid (Upd noBlock wr W)) := fun W hW => by
        obtain ⟨a0, a1, a2, a3, a4, _⟩ := HK.out W (HU.out.trans hW)
        exact ⟨a0, a1, a2, a3, a4, hW⟩
      clear HFT HK ia ib hm hca hcb la lb hiN
      go_region_held3 (fun W => W.cell? ⟨w2.heap.size, 0, none⟩ = some (.int .i64 j) ∧ W.cell? ⟨w2.heap.size, 1, none⟩ = some (.int .i64 (h : Int)) ∧ W.cell? ⟨w2.heap.size, 2, none⟩ = some (.int .i64 (r : Int)) ∧ W.cell? ⟨w2.heap.size, 3, none⟩ = some (.int .i64 y) ∧ W.cell? ⟨w2.heap.size, 4, none⟩ = some (.int .i64 s) ∧ Hid (Upd noBlock wr W))
        (first | (with_reducible exact HKK.out _ HU2.out) | (with_reducible exact HKK.out _ HU2.out.drew) | (with_reducible exact HKK.out _ SB.out) | (with_reducible exact HKK.out _ SA.out))
        (first
          | (go_at_call 11; go_split_ands; go_loud ((first | (with_reducible refine (F1.out _ (Hid.out (by assumption))).mono ?_) | (with_reducible refine (F2.out _ (Hid.out (by assumption))).mono ?_)); rintro e w5 ⟨rfl, hu5⟩; (first | (have SB : Hid (Upd noBlock wr w5) := SA.out.trans hu5) | (have SA : Hid (Upd noBlock wr w5) := HU2.out.drew.trans hu5)); clear hu5)))
      all_goals
        go_wp2_with fail
        go_ret
        exact ⟨rfl, UP.out.trans (HU.out.trans SB.out)⟩
theorem spaceSure_walk (b p c k t : Int) (a1 : Option Addr) (n1 c1 : Nat) (xs1 : List Int) (a2 : Option Addr) (n2 c2 : Nat) (xs2 : List Int) (w : World) (_ : (Lit.int IntKind.i64 b).wf = true) (_ : (Lit.int IntKind.i64 p).wf = true) (_ : (Lit.int IntKind.i64 c).wf = true) (_ : (Lit.int IntKind.i64 k).wf = true) (_ : (Lit.int IntKind.i64 t).wf = true) (hr1 : IsRow .i64 w a1 n1 c1 xs1) (hr2 : IsRow .i64 w a2 n2 c2 xs2) :
    Calls Try.prog 4 #[.agg #[.int .i64 b, .int .i64 p, .int .i64 c, .int .i64 k, .int .i64 t], .slice a1 n1 c1, .slice a2 n2 c2] w fun e w' => e = .returned (.bool true) ∧ Below w.heap.size w w' :=
  (spaceSure_upd b p c k t a1 a2 n1 n2 c1 c2 _ _ w hr1.ints.1 hr2.ints.1 hr1.ints.2 hr2.ints.2).mono fun _ _ ⟨h, hu⟩ => ⟨h, hu.below (fun _ _ h => h)⟩
end Go.Proofs.Ytnimgkijodfjkaa
