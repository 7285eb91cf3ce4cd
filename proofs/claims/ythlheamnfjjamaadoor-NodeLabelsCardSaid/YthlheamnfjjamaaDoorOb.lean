/- node.Encode. -/
import Derived.Test.YthlheamnfjjamaaDoorOa
import Derived.Deep.DrawnRows
import Derived.Deep.Cut
import Derived.Deep.CutRange
namespace Go.Proofs.YthlheamnfjjamaaDoor
open Go.RowKit Cm
attribute [local irreducible] beZ valN
attribute [local go_sem ↓] Go.wp_at_zero Go.wp_at_succ

theorem cat_bytes (a b : List UInt8) : (ByteArray.mk a.toArray) ++ (ByteArray.mk b.toArray) = ByteArray.mk (a ++ b).toArray := by
  apply ByteArray.ext; simp
theorem Upd.undrew {R : Nat → Prop} {a b : World} (h : Upd R a.drew b) : Upd R a b := ⟨h.os, h.tape, h.output, h.size, h.block⟩
/-- a number in a new block, behind a call -/
theorem sl_new (n : Int) (X W : World) (h : Upd noBlock (X.alloc (.cells #[.int .i64 n] 3)) W) : W.cell? ⟨X.heap.size, 0, none⟩ = some (.int .i64 n) :=
  upd_cell h (cell_of (heap_alloc_new X _) 0)
theorem sl_new2 (n : Int) (X W : World) (O : Obj) (h : Upd noBlock ((X.alloc O).alloc (.cells #[.int .i64 n] 3)) W) : W.cell? ⟨X.heap.size + 1, 0, none⟩ = some (.int .i64 n) :=
  upd_cell h (cell_of (heap_alloc2_new X _ _) 0)
theorem sl_old (n : Int) (X W : World) (O : Obj) (h : Upd noBlock ((X.alloc (.cells #[.int .i64 n] 3)).alloc O) W) : W.cell? ⟨X.heap.size, 0, none⟩ = some (.int .i64 n) :=
  upd_cell h (cell_of (block_alloc (heap_alloc_new X _) _) 0)
theorem JoinC (size : Nat) (hs : size ≤ 8) (z : Int) (hz : z = (size : Int)) (n : Int) (h : Nat) (W : World) (hc : W.cell? ⟨h, 0, none⟩ = some (.int .i64 n)) :
    Calls Tryd.prog 38 #[.int .i64 z, .slice (some ⟨h, 0, none⟩) 1 1] W fun e w' => e = .returned (.string ⟨(beZ size n).toArray⟩) ∧ Upd noBlock W w' := by
  subst hz
  exact Join1 size n h W hs hc
set_option maxRecDepth 20000 in
set_option maxHeartbeats 3200000 in
theorem encodeN_bad (seq : Int) (gone last : Bool) (k v : List UInt8) (w : World) (hk : k.length ≤ maxLen) (hv : v.length ≤ maxLen) (hg : goodN seq gone k v = false) :
    Calls Tryd.prog 12 #[.agg #[.int .i64 seq, .bool gone, .bool last, .string ⟨k.toArray⟩, .string ⟨v.toArray⟩]] w fun e w' => e = .returned (.tuple #[.string ⟨[].toArray⟩, .bool false]) ∧ Upd noBlock w w' := by
  have HV := fun W => validN_any seq gone last k v W hk hv
  rw [hg] at HV
  obtain ⟨qk, hqk⟩ : ∃ q : ByteArray, ⟨k.toArray⟩ = q := ⟨_, rfl⟩
  obtain ⟨qv, hqv⟩ : ∃ q : ByteArray, ⟨v.toArray⟩ = q := ⟨_, rfl⟩
  rw [hqk, hqv] at HV ⊢
  replace HV := Lib.hid HV
  have HB : Hid (Upd noBlock w (w.alloc (.cells #[.int .i64 seq, .bool gone, .bool last, .string qk, .string qv] 26))) := (Upd.refl _ _).alloc _
  clear hqk hqv hg hk hv
  go_enter Tryd.func12, Tryd.ntmps12
  go_wp2_with (go_at_call 37; with_reducible refine (HV.out _).mono ?_; rintro e w1 ⟨rfl, h⟩; have HW := Lib.hid h; clear h)
  go_ret2
  exact ⟨rfl, HB.out.trans HW.out⟩
set_option maxRecDepth 20000 in
set_option maxHeartbeats 3200000 in
theorem encodeN_good (seq : Int) (gone last : Bool) (k v : List UInt8) (w : World) (hk : k.length ≤ 64) (hv : v.length ≤ 200) (hg : goodN seq gone k v = true) (hT : Tab w) :
    Calls Tryd.prog 12 #[.agg #[.int .i64 seq, .bool gone, .bool last, .string ⟨k.toArray⟩, .string ⟨v.toArray⟩]] w fun e w' => e = .returned (.tuple #[.string ⟨(sealed (rawN seq gone last k v)).toArray⟩, .bool true]) ∧ Upd noBlock w w' := by
  have HV := fun W => validN_any seq gone last k v W (by unfold maxLen; omega) (by unfold maxLen; omega)
  rw [hg] at HV
  have HFL := fun W => flags_any seq gone last ⟨k.toArray⟩ ⟨v.toArray⟩ W
  generalize hfl : flagN gone last = fl at *
  have HJ1 := JoinC 1 (by omega) 1 rfl fl
  have HJ8 := JoinC 8 (by omega) 8 rfl seq
  have HJk := JoinC 1 (by omega) 1 rfl (k.length : Int)
  have HJv := JoinC 2 (by omega) 2 rfl (v.length : Int)
  have HSL : ∀ W, Tab W → _ := fun W hW => seal_any ⟨(rawN seq gone last k v).toArray⟩ W (by
    show (rawN seq gone last k v).length ≤ _
    unfold rawN
    simp only [List.length_append, List.length_singleton, beZ_length]
    omega) hW
  have hraw : rawN seq gone last k v = ((([78] ++ beZ 1 fl) ++ beZ 8 seq) ++ (beZ 1 (k.length : Int) ++ beZ 2 (v.length : Int))) ++ k ++ v := by rw [← hfl]; rfl
  have e1 := cat_bytes [78] (beZ 1 fl)
  have e2 := cat_bytes ([78] ++ beZ 1 fl) (beZ 8 seq)
  have e3 := cat_bytes (beZ 1 (k.length : Int)) (beZ 2 (v.length : Int))
  have e4 := cat_bytes (([78] ++ beZ 1 fl) ++ beZ 8 seq) (beZ 1 (k.length : Int) ++ beZ 2 (v.length : Int))
  have e5 := cat_bytes ((([78] ++ beZ 1 fl) ++ beZ 8 seq) ++ (beZ 1 (k.length : Int) ++ beZ 2 (v.length : Int))) k
  have e6 := cat_bytes (((([78] ++ beZ 1 fl) ++ beZ 8 seq) ++ (beZ 1 (k.length : Int) ++ beZ 2 (v.length : Int))) ++ k) v
  rw [← hraw] at e6
  have z1 : (⟨(beZ 1 fl).toArray⟩ : ByteArray).size = 1 := beZ_length _ _
  have z8 : (⟨(beZ 8 seq).toArray⟩ : ByteArray).size = 8 := beZ_length _ _
  have zk : (⟨(beZ 1 (k.length : Int)).toArray⟩ : ByteArray).size = 1 := beZ_length _ _
  have zv : (⟨(beZ 2 (v.length : Int)).toArray⟩ : ByteArray).size = 2 := beZ_length _ _
  have y1 : (⟨([78] ++ beZ 1 fl).toArray⟩ : ByteArray).size = 2 := by show ([78] ++ beZ 1 fl).length = 2; rw [List.length_append, beZ_length]; rfl
  have y2 : (⟨(([78] ++ beZ 1 fl) ++ beZ 8 seq).toArray⟩ : ByteArray).size = 10 := by show (([78] ++ beZ 1 fl) ++ beZ 8 seq).length = 10; rw [List.length_append, List.length_append, beZ_length, beZ_length]; rfl
  have y3 : (⟨(beZ 1 (k.length : Int) ++ beZ 2 (v.length : Int)).toArray⟩ : ByteArray).size = 3 := by show (beZ 1 (k.length : Int) ++ beZ 2 (v.length : Int)).length = 3; rw [List.length_append, beZ_length, beZ_length]
  have y4 : (⟨((([78] ++ beZ 1 fl) ++ beZ 8 seq) ++ (beZ 1 (k.length : Int) ++ beZ 2 (v.length : Int))).toArray⟩ : ByteArray).size = 13 := by show (((([78] ++ beZ 1 fl) ++ beZ 8 seq) ++ (beZ 1 (k.length : Int) ++ beZ 2 (v.length : Int)))).length = 13; simp only [List.length_append, beZ_length]; rfl
  obtain ⟨qr, hqr⟩ : ∃ q : ByteArray, ⟨(rawN seq gone last k v).toArray⟩ = q := ⟨_, rfl⟩
  obtain ⟨qs, hqs⟩ : ∃ q : ByteArray, ⟨(sealed (rawN seq gone last k v)).toArray⟩ = q := ⟨_, rfl⟩
  obtain ⟨q5, hq5⟩ : ∃ q : ByteArray, ⟨(((([78] ++ beZ 1 fl) ++ beZ 8 seq) ++ (beZ 1 (k.length : Int) ++ beZ 2 (v.length : Int))) ++ k).toArray⟩ = q := ⟨_, rfl⟩
  obtain ⟨q4, hq4⟩ : ∃ q : ByteArray, ⟨((([78] ++ beZ 1 fl) ++ beZ 8 seq) ++ (beZ 1 (k.length : Int) ++ beZ 2 (v.length : Int))).toArray⟩ = q := ⟨_, rfl⟩
  obtain ⟨q3, hq3⟩ : ∃ q : ByteArray, ⟨(beZ 1 (k.length : Int) ++ beZ 2 (v.length : Int)).toArray⟩ = q := ⟨_, rfl⟩
  obtain ⟨q2, hq2⟩ : ∃ q : ByteArray, ⟨(([78] ++ beZ 1 fl) ++ beZ 8 seq).toArray⟩ = q := ⟨_, rfl⟩
  obtain ⟨q1, hq1⟩ : ∃ q : ByteArray, ⟨([78] ++ beZ 1 fl).toArray⟩ = q := ⟨_, rfl⟩
  obtain ⟨p1, hp1⟩ : ∃ q : ByteArray, ⟨(beZ 1 fl).toArray⟩ = q := ⟨_, rfl⟩
  obtain ⟨p8, hp8⟩ : ∃ q : ByteArray, ⟨(beZ 8 seq).toArray⟩ = q := ⟨_, rfl⟩
  obtain ⟨pk, hpk⟩ : ∃ q : ByteArray, ⟨(beZ 1 (k.length : Int)).toArray⟩ = q := ⟨_, rfl⟩
  obtain ⟨pv, hpv⟩ : ∃ q : ByteArray, ⟨(beZ 2 (v.length : Int)).toArray⟩ = q := ⟨_, rfl⟩
  obtain ⟨qk, hqk⟩ : ∃ q : ByteArray, ⟨k.toArray⟩ = q := ⟨_, rfl⟩
  obtain ⟨qv, hqv⟩ : ∃ q : ByteArray, ⟨v.toArray⟩ = q := ⟨_, rfl⟩
  have hkz : qk.size = k.length := by rw [← hqk]; rfl
  have hvz : qv.size = v.length := by rw [← hqv]; rfl
  have y5 : q5.size = 13 + k.length := by
    rw [← hq5]
    show (((([78] ++ beZ 1 fl) ++ beZ 8 seq) ++ (beZ 1 (k.length : Int) ++ beZ 2 (v.length : Int))) ++ k).length = 13 + k.length
    simp only [List.length_append, beZ_length, List.length_singleton]
  have hsl' : ∀ W, Tab W → Calls Tryd.prog 40 #[.string qr] W fun e w' => e = .returned (.string qs) ∧ Upd noBlock W w' := fun W hW => by
    rw [← hqr, ← hqs]
    exact HSL W hW
  rw [hqk, hqv] at HV HFL ⊢
  rw [hqs]
  simp only [hp1] at HJ1 e1 z1
  simp only [hp8] at HJ8 e2 z8
  simp only [hpk] at HJk e3 zk
  simp only [hpv] at HJv e3 zv
  rw [hq1] at e1 e2 y1
  rw [hq2] at e2 e4 y2
  rw [hq3] at e3 e4 y3
  rw [hq4] at e4 e5 y4
  rw [hq5] at e5 e6
  rw [hqk] at e5
  rw [hqv, hqr] at e6
  have HSL2 := Lib.hid hsl'
  have HT : Hid (∀ W, Upd noBlock w W → Tab W) := fun W h => hT.upd h
  clear HSL hsl' hqr hqs hq5 hq4 hq3 hq2 hq1 hp1 hp8 hpk hpv hqk hqv hraw hfl hg hT
  replace HV := Lib.hid HV
  replace HFL := Lib.hid HFL
  replace HJ1 := Lib.hid HJ1
  replace HJ8 := Lib.hid HJ8
  replace HJk := Lib.hid HJk
  replace HJv := Lib.hid HJv
  have HC := Lib.hid (fun w1 h => node_box w w1 (.int .i64 seq) (.bool gone) (.bool last) (.string qk) (.string qv) 26 h)
  have HB : Hid (Upd noBlock w (w.alloc (.cells #[.int .i64 seq, .bool gone, .bool last, .string qk, .string qv] 26))) := (Upd.refl _ _).alloc _
  go_enter Tryd.func12, Tryd.ntmps12
  go_upto_region 3 with (go_at_call 37; with_reducible refine (HV.out _).mono ?_; rintro e w1 ⟨rfl, h⟩; have HW := Lib.hid h; obtain ⟨c0, c1, c2, c3, c4⟩ := HC.out _ h; have ca0 := fun O => (HC.out _ (HW.out.alloc O)).1; have ca1 := fun O => (HC.out _ (HW.out.alloc O)).2.1; have ca2 := fun O => (HC.out _ (HW.out.alloc O)).2.2.1; have ca3 := fun O => (HC.out _ (HW.out.alloc O)).2.2.2.1; have ca4 := fun O => (HC.out _ (HW.out.alloc O)).2.2.2.2; clear h)
  go_cut [4] from 9 to 18 (fun x wx => x = .string q2 ∧ Hid (Upd noBlock (w.alloc (.cells #[.int .i64 seq, .bool gone, .bool last, .string qk, .string qv] 26)) wx))
  case first =>
    go_region_with (first
      | (go_at_call 39; with_reducible refine (HFL.out _).mono ?_; rintro e w2 ⟨rfl, h⟩; (first | replace h := Upd.undrew h | skip); (first | have HW := Lib.hid (HW.out.trans h) | have HW := Lib.hid ((HW.out.alloc _).trans h) | have HW := Lib.hid (((HW.out.alloc _).alloc _).trans h)); (first | have k8 := sl_new2 seq _ _ _ h | have k8 := sl_new seq _ _ h | have k8 := sl_old seq _ _ _ h | have k8 := upd_cell h k8 | have k8 := upd_cell (((Upd.refl _ _).alloc _).trans h) k8 | skip); obtain ⟨d0, d1, d2, d3, d4⟩ := HC.out _ HW.out; have da0 := fun O => (HC.out _ (HW.out.alloc O)).1; have da1 := fun O => (HC.out _ (HW.out.alloc O)).2.1; have da2 := fun O => (HC.out _ (HW.out.alloc O)).2.2.1; have da3 := fun O => (HC.out _ (HW.out.alloc O)).2.2.2.1; have da4 := fun O => (HC.out _ (HW.out.alloc O)).2.2.2.2; clear h)
      | (go_at_call 38; with_reducible show Calls _ _ #[.int .i64 1, _] _ _; refine (HJ1.out _ _ ?_).mono ?_; (focus (first | exact sl_new2 fl _ _ _ (Upd.refl _ _) | exact sl_new fl _ _ (Upd.refl _ _) | exact sl_old fl _ _ _ (Upd.refl _ _) | exact sl_new2 fl _ _ _ ((Upd.refl _ _).drew) | exact sl_new fl _ _ ((Upd.refl _ _).drew) | exact sl_old fl _ _ _ ((Upd.refl _ _).drew) | exact k1 | exact upd_cell ((Upd.refl _ _).alloc _) k1 | exact upd_cell (((Upd.refl _ _).alloc _).drew) k1)); rintro e w3 ⟨rfl, h⟩; (first | replace h := Upd.undrew h | skip); (first | have HW := Lib.hid (HW.out.trans h) | have HW := Lib.hid ((HW.out.alloc _).trans h) | have HW := Lib.hid (((HW.out.alloc _).alloc _).trans h)); (first | have k8 := sl_new2 seq _ _ _ h | have k8 := sl_new seq _ _ h | have k8 := sl_old seq _ _ _ h | have k8 := upd_cell h k8 | have k8 := upd_cell (((Upd.refl _ _).alloc _).trans h) k8 | skip); obtain ⟨f0, f1, f2, f3, f4⟩ := HC.out _ HW.out; have fa0 := fun O => (HC.out _ (HW.out.alloc O)).1; have fa1 := fun O => (HC.out _ (HW.out.alloc O)).2.1; have fa2 := fun O => (HC.out _ (HW.out.alloc O)).2.2.1; have fa3 := fun O => (HC.out _ (HW.out.alloc O)).2.2.2.1; have fa4 := fun O => (HC.out _ (HW.out.alloc O)).2.2.2.2; clear h)
      | (go_at_call 38; with_reducible show Calls _ _ #[.int .i64 8, _] _ _; refine (HJ8.out _ _ ?_).mono ?_; (focus (first | exact sl_new2 seq _ _ _ (Upd.refl _ _) | exact sl_new seq _ _ (Upd.refl _ _) | exact sl_old seq _ _ _ (Upd.refl _ _) | exact sl_new2 seq _ _ _ ((Upd.refl _ _).drew) | exact sl_new seq _ _ ((Upd.refl _ _).drew) | exact sl_old seq _ _ _ ((Upd.refl _ _).drew) | exact k8 | exact upd_cell ((Upd.refl _ _).alloc _) k8 | exact upd_cell (((Upd.refl _ _).alloc _).drew) k8)); rintro e w4 ⟨rfl, h⟩; (first | replace h := Upd.undrew h | skip); (first | have HW := Lib.hid (HW.out.trans h) | have HW := Lib.hid ((HW.out.alloc _).trans h) | have HW := Lib.hid (((HW.out.alloc _).alloc _).trans h)); (first | have k1 := sl_new2 fl _ _ _ h | have k1 := sl_new fl _ _ h | have k1 := sl_old fl _ _ _ h | have k1 := upd_cell h k1 | have k1 := upd_cell (((Upd.refl _ _).alloc _).trans h) k1 | skip); obtain ⟨g0, g1, g2, g3, g4⟩ := HC.out _ HW.out; have ga0 := fun O => (HC.out _ (HW.out.alloc O)).1; have ga1 := fun O => (HC.out _ (HW.out.alloc O)).2.1; have ga2 := fun O => (HC.out _ (HW.out.alloc O)).2.2.1; have ga3 := fun O => (HC.out _ (HW.out.alloc O)).2.2.2.1; have ga4 := fun O => (HC.out _ (HW.out.alloc O)).2.2.2.2; clear h))
    all_goals
      go_wp2_with fail
      go_meet
      exact ⟨rfl, HW⟩
  case rest =>
    obtain ⟨rfl, HW⟩ := hcut
    obtain ⟨m0, m1, m2, m3, m4⟩ := HC.out _ HW.out
    have ma0 := fun O => (HC.out _ (HW.out.alloc O)).1
    have ma1 := fun O => (HC.out _ (HW.out.alloc O)).2.1
    have ma2 := fun O => (HC.out _ (HW.out.alloc O)).2.2.1
    have ma3 := fun O => (HC.out _ (HW.out.alloc O)).2.2.2.1
    have ma4 := fun O => (HC.out _ (HW.out.alloc O)).2.2.2.2
    go_upto_region 4 with fail
    go_cut [5] from 19 to 29 (fun x wx => x = .string q3 ∧ Hid (Upd noBlock (w.alloc (.cells #[.int .i64 seq, .bool gone, .bool last, .string qk, .string qv] 26)) wx))
    case first =>
      go_region_with (first
        | (go_at_call 38; with_reducible show Calls _ _ #[.int .i64 1, _] _ _; refine (HJk.out _ _ ?_).mono ?_; (focus (first | exact sl_new2 (k.length : Int) _ _ _ (Upd.refl _ _) | exact sl_new (k.length : Int) _ _ (Upd.refl _ _) | exact sl_old (k.length : Int) _ _ _ (Upd.refl _ _) | exact sl_new2 (k.length : Int) _ _ _ ((Upd.refl _ _).drew) | exact sl_new (k.length : Int) _ _ ((Upd.refl _ _).drew) | exact sl_old (k.length : Int) _ _ _ ((Upd.refl _ _).drew) | exact k5 | exact upd_cell ((Upd.refl _ _).alloc _) k5 | exact upd_cell (((Upd.refl _ _).alloc _).drew) k5)); rintro e w5 ⟨rfl, h⟩; (first | replace h := Upd.undrew h | skip); (first | have HW := Lib.hid (HW.out.trans h) | have HW := Lib.hid ((HW.out.alloc _).trans h) | have HW := Lib.hid (((HW.out.alloc _).alloc _).trans h)); (first | have k6 := sl_new2 (v.length : Int) _ _ _ h | have k6 := sl_new (v.length : Int) _ _ h | have k6 := sl_old (v.length : Int) _ _ _ h | have k6 := upd_cell h k6 | have k6 := upd_cell (((Upd.refl _ _).alloc _).trans h) k6 | skip); obtain ⟨i0, i1, i2, i3, i4⟩ := HC.out _ HW.out; have ia0 := fun O => (HC.out _ (HW.out.alloc O)).1; have ia1 := fun O => (HC.out _ (HW.out.alloc O)).2.1; have ia2 := fun O => (HC.out _ (HW.out.alloc O)).2.2.1; have ia3 := fun O => (HC.out _ (HW.out.alloc O)).2.2.2.1; have ia4 := fun O => (HC.out _ (HW.out.alloc O)).2.2.2.2; clear h)
        | (go_at_call 38; with_reducible show Calls _ _ #[.int .i64 2, _] _ _; refine (HJv.out _ _ ?_).mono ?_; (focus (first | exact sl_new2 (v.length : Int) _ _ _ (Upd.refl _ _) | exact sl_new (v.length : Int) _ _ (Upd.refl _ _) | exact sl_old (v.length : Int) _ _ _ (Upd.refl _ _) | exact sl_new2 (v.length : Int) _ _ _ ((Upd.refl _ _).drew) | exact sl_new (v.length : Int) _ _ ((Upd.refl _ _).drew) | exact sl_old (v.length : Int) _ _ _ ((Upd.refl _ _).drew) | exact k6 | exact upd_cell ((Upd.refl _ _).alloc _) k6 | exact upd_cell (((Upd.refl _ _).alloc _).drew) k6)); rintro e w6 ⟨rfl, h⟩; (first | replace h := Upd.undrew h | skip); (first | have HW := Lib.hid (HW.out.trans h) | have HW := Lib.hid ((HW.out.alloc _).trans h) | have HW := Lib.hid (((HW.out.alloc _).alloc _).trans h)); (first | have k5 := sl_new2 (k.length : Int) _ _ _ h | have k5 := sl_new (k.length : Int) _ _ h | have k5 := sl_old (k.length : Int) _ _ _ h | have k5 := upd_cell h k5 | have k5 := upd_cell (((Upd.refl _ _).alloc _).trans h) k5 | skip); obtain ⟨j0, j1, j2, j3, j4⟩ := HC.out _ HW.out; have ja0 := fun O => (HC.out _ (HW.out.alloc O)).1; have ja1 := fun O => (HC.out _ (HW.out.alloc O)).2.1; have ja2 := fun O => (HC.out _ (HW.out.alloc O)).2.2.1; have ja3 := fun O => (HC.out _ (HW.out.alloc O)).2.2.2.1; have ja4 := fun O => (HC.out _ (HW.out.alloc O)).2.2.2.2; clear h))
      all_goals
        go_wp2_with fail
        go_meet
        exact ⟨rfl, HW⟩
    case rest =>
      obtain ⟨rfl, HW⟩ := hcut
      obtain ⟨n0, n1, n2, n3, n4⟩ := HC.out _ HW.out
      have htab := Lib.hid (HT.out _ (HB.out.trans HW.out))
      go_wp2_with (go_at_call 40; refine (HSL2.out _ htab.out).mono ?_; rintro e w7 ⟨rfl, h⟩; have HW := Lib.hid (HW.out.trans h); clear h)
      go_ret2
      exact ⟨rfl, HB.out.trans HW.out⟩
theorem encodeN_any (seq : Int) (gone last : Bool) (k v : List UInt8) (w : World) (hk : k.length ≤ maxLen) (hv : v.length ≤ maxLen) (hT : Tab w) :
    Calls Tryd.prog 12 #[.agg #[.int .i64 seq, .bool gone, .bool last, .string ⟨k.toArray⟩, .string ⟨v.toArray⟩]] w fun e w' => e = .returned (.tuple #[.string ⟨(encN seq gone last k v).toArray⟩, .bool (goodN seq gone k v)]) ∧ Upd noBlock w w' := by
  unfold encN
  cases hg : goodN seq gone k v with
  | true =>
    rw [if_pos rfl]
    have hb := hg
    simp [goodN] at hb
    exact encodeN_good seq gone last k v w (by omega) (by omega) hg hT
  | false =>
    rw [if_neg (by decide)]
    exact encodeN_bad seq gone last k v w hk hv hg
end Go.Proofs.YthlheamnfjjamaaDoor
