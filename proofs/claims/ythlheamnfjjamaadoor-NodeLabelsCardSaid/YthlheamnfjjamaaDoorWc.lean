/- An inode as a value. -/
import Derived.Test.YthlheamnfjjamaaDoorWb
namespace Go.Proofs.YthlheamnfjjamaaDoor
open Go.RowKit Cm
attribute [local irreducible] beZ valN Cm.shs Cm.nxt Cm.reg Cm.ext
attribute [local go_sem ↓] Go.wp_at_zero Go.wp_at_succ
set_option linter.unusedVariables false

theorem slh_new (C : Array Value) (t : TypeId) (X W : World) (h : Upd noBlock (X.alloc (.cells C t)) W) : W.heap[X.heap.size]? = some (.cells C t (0, 0)) := h.cells (heap_alloc_new X _) (fun h => h)
theorem slh_new2 (C : Array Value) (t : TypeId) (X W : World) (O : Obj) (h : Upd noBlock ((X.alloc O).alloc (.cells C t)) W) : W.heap[X.heap.size + 1]? = some (.cells C t (0, 0)) := h.cells (heap_alloc2_new X _ _) (fun h => h)
theorem slh_old (C : Array Value) (t : TypeId) (X W : World) (O : Obj) (h : Upd noBlock ((X.alloc (.cells C t)).alloc O) W) : W.heap[X.heap.size]? = some (.cells C t (0, 0)) := h.cells (block_alloc (heap_alloc_new X _) _) (fun h => h)
theorem JoinH1 (size : Nat) (hs : size ≤ 8) (z : Int) (hz : z = (size : Int)) (a : Int) (h : Nat) (W : World) (hc : W.heap[h]? = some (.cells #[.int .i64 a] 3 (0, 0))) :
    Calls Tryd.prog 38 #[.int .i64 z, .slice (some ⟨h, 0, none⟩) 1 1] W fun e w' => e = .returned (.string ⟨(beZ size a).toArray⟩) ∧ Upd noBlock W w' := by
  have := JoinL size hs z hz [a] (by simp) 1 rfl h W (fun i hi => by
    have : i = 0 := by simpa using hi
    subst this; exact cell_of hc 0)
  have e : joinZ size [a] = beZ size a := by simp [joinZ]
  rw [e] at this; exact this
theorem JoinH2 (size : Nat) (hs : size ≤ 8) (z : Int) (hz : z = (size : Int)) (a b : Int) (h : Nat) (W : World) (hc : W.heap[h]? = some (.cells #[.int .i64 a, .int .i64 b] 3 (0, 0))) :
    Calls Tryd.prog 38 #[.int .i64 z, .slice (some ⟨h, 0, none⟩) 2 2] W fun e w' => e = .returned (.string ⟨(beZ size a ++ beZ size b).toArray⟩) ∧ Upd noBlock W w' := by
  have := JoinL size hs z hz [a, b] (by simp) 2 rfl h W (fun i hi => by
    have : i = 0 ∨ i = 1 := by simp at hi; omega
    rcases this with rfl | rfl
    · exact cell_of hc 0
    · exact cell_of hc 1)
  rw [joinZ2] at this; exact this
theorem JoinH3 (size : Nat) (hs : size ≤ 8) (z : Int) (hz : z = (size : Int)) (a b c : Int) (h : Nat) (W : World) (hc : W.heap[h]? = some (.cells #[.int .i64 a, .int .i64 b, .int .i64 c] 3 (0, 0))) :
    Calls Tryd.prog 38 #[.int .i64 z, .slice (some ⟨h, 0, none⟩) 3 3] W fun e w' => e = .returned (.string ⟨(beZ size a ++ (beZ size b ++ beZ size c)).toArray⟩) ∧ Upd noBlock W w' := by
  have := JoinL size hs z hz [a, b, c] (by simp) 3 rfl h W (fun i hi => by
    have : i = 0 ∨ i = 1 ∨ i = 2 := by simp at hi; omega
    rcases this with rfl | rfl | rfl
    · exact cell_of hc 0
    · exact cell_of hc 1
    · exact cell_of hc 2)
  rw [joinZ3] at this; exact this
theorem box3 (w W : World) (a b c : Value) (t : TypeId) (h : Upd noBlock (w.alloc (.cells #[a, b, c] t)) W) : W.cell? ⟨w.heap.size, 0, none⟩ = some a ∧ W.cell? ⟨w.heap.size, 1, none⟩ = some b ∧ W.cell? ⟨w.heap.size, 2, none⟩ = some c :=
  let k := h.cells (heap_alloc_new w _) (fun h => h)
  ⟨cell_of k 0, cell_of k 1, cell_of k 2⟩
set_option maxRecDepth 20000 in
set_option maxHeartbeats 3200000 in
theorem putInode_d (d : Bool) (x a b : Int) (hx : x = if d then 1 else 0) (w : World) :
    Calls Tryd.prog 17 #[.agg #[.bool d, .int .i64 a, .int .i64 b]] w fun e w' => e = .returned (.string ⟨(beZ 1 x ++ (beZ 8 a ++ beZ 8 b)).toArray⟩) ∧ Upd noBlock w w' := by
  have HJ1 := Lib.hid (JoinH1 1 (by omega) 1 rfl x)
  have HJ8 := Lib.hid (JoinH2 8 (by omega) 8 rfl a b)
  have e1 := cat_bytes (beZ 1 x) (beZ 8 a ++ beZ 8 b)
  have z1 : (⟨(beZ 1 x).toArray⟩ : ByteArray).size = 1 := beZ_length _ _
  have z8 : (⟨(beZ 8 a ++ beZ 8 b).toArray⟩ : ByteArray).size = 16 := by show (beZ 8 a ++ beZ 8 b).length = 16; rw [List.length_append, beZ_length, beZ_length]
  obtain ⟨p1, hp1⟩ : ∃ q : ByteArray, ⟨(beZ 1 x).toArray⟩ = q := ⟨_, rfl⟩
  obtain ⟨p8, hp8⟩ : ∃ q : ByteArray, ⟨(beZ 8 a ++ beZ 8 b).toArray⟩ = q := ⟨_, rfl⟩
  obtain ⟨p9, hp9⟩ : ∃ q : ByteArray, ⟨(beZ 1 x ++ (beZ 8 a ++ beZ 8 b)).toArray⟩ = q := ⟨_, rfl⟩
  rw [hp1, hp8, hp9] at e1
  rw [hp1] at z1 HJ1
  rw [hp8] at z8 HJ8
  rw [hp9]
  clear hp1 hp8 hp9
  have HC := Lib.hid (fun W h => box3 w W (.bool d) (.int .i64 a) (.int .i64 b) 41 h)
  obtain ⟨wa, hwa⟩ : ∃ wa, wa = w.alloc (.cells #[.bool d, .int .i64 a, .int .i64 b] 41) := ⟨_, rfl⟩
  have HW : Hid (Upd noBlock (w.alloc (.cells #[.bool d, .int .i64 a, .int .i64 b] 41)) wa) := by rw [hwa]; exact Upd.refl _ _
  have HWA := Lib.hid hwa
  clear hwa
  have cc0 : (w.alloc (.cells #[.bool d, .int .i64 a, .int .i64 b] 41)).cell? ⟨w.heap.size, 0, none⟩ = some (.bool d) := (HC.out _ (Upd.refl _ _)).1
  obtain ⟨c0, c1, c2⟩ := HC.out _ HW.out
  have ca1 := fun O => (HC.out _ (HW.out.alloc O)).2.1
  have ca2 := fun O => (HC.out _ (HW.out.alloc O)).2.2
  have HB : Hid (Upd noBlock w (w.alloc (.cells #[.bool d, .int .i64 a, .int .i64 b] 41))) := (Upd.refl _ _).alloc _
  cases d with
  | true =>
    obtain rfl : x = 1 := hx
    go_enter Tryd.func17, Tryd.ntmps17
    go_upto_region 4 with fail
    rw [← HWA.out]
    clear HWA cc0
    go_region_with (first
      | (go_at_call 38; (with_reducible show Calls _ _ #[.int .i64 1, _] _ _); refine (HJ1.out _ _ ?_).mono ?_; (focus (first | exact slh_new2 #[.int .i64 1] _ _ _ _ (Upd.refl _ _) | exact slh_new #[.int .i64 1] _ _ _ (Upd.refl _ _) | exact slh_old #[.int .i64 1] _ _ _ _ (Upd.refl _ _) | exact slh_new2 #[.int .i64 1] _ _ _ _ ((Upd.refl _ _).drew) | exact slh_new #[.int .i64 1] _ _ _ ((Upd.refl _ _).drew) | exact slh_old #[.int .i64 1] _ _ _ _ ((Upd.refl _ _).drew) | exact k1 | exact ((Upd.refl noBlock _).alloc _).cells k1 (fun h => h) | exact (((Upd.refl noBlock _).alloc _).drew).cells k1 (fun h => h))); rintro e w3 ⟨rfl, h⟩; (first | replace h := Upd.undrew h | skip); (first | have HW := Lib.hid (HW.out.trans h) | have HW := Lib.hid ((HW.out.alloc _).trans h) | have HW := Lib.hid (((HW.out.alloc _).alloc _).trans h)); (first | have k8 := slh_new2 #[.int .i64 a, .int .i64 b] _ _ _ _ h | have k8 := slh_new #[.int .i64 a, .int .i64 b] _ _ _ h | have k8 := slh_old #[.int .i64 a, .int .i64 b] _ _ _ _ h | have k8 := h.cells k8 (fun h => h) | have k8 := (((Upd.refl noBlock _).alloc _).trans h).cells k8 (fun h => h) | skip); obtain ⟨f0, f1, f2⟩ := HC.out _ HW.out; have fa1 := fun O => (HC.out _ (HW.out.alloc O)).2.1; have fa2 := fun O => (HC.out _ (HW.out.alloc O)).2.2; clear h)
      | (go_at_call 38; (with_reducible show Calls _ _ #[.int .i64 8, _] _ _); refine (HJ8.out _ _ ?_).mono ?_; (focus (first | exact slh_new2 #[.int .i64 a, .int .i64 b] _ _ _ _ (Upd.refl _ _) | exact slh_new #[.int .i64 a, .int .i64 b] _ _ _ (Upd.refl _ _) | exact slh_old #[.int .i64 a, .int .i64 b] _ _ _ _ (Upd.refl _ _) | exact slh_new2 #[.int .i64 a, .int .i64 b] _ _ _ _ ((Upd.refl _ _).drew) | exact slh_new #[.int .i64 a, .int .i64 b] _ _ _ ((Upd.refl _ _).drew) | exact slh_old #[.int .i64 a, .int .i64 b] _ _ _ _ ((Upd.refl _ _).drew) | exact k8 | exact ((Upd.refl noBlock _).alloc _).cells k8 (fun h => h) | exact (((Upd.refl noBlock _).alloc _).drew).cells k8 (fun h => h))); rintro e w4 ⟨rfl, h⟩; (first | replace h := Upd.undrew h | skip); (first | have HW := Lib.hid (HW.out.trans h) | have HW := Lib.hid ((HW.out.alloc _).trans h) | have HW := Lib.hid (((HW.out.alloc _).alloc _).trans h)); (first | have k1 := slh_new2 #[.int .i64 1] _ _ _ _ h | have k1 := slh_new #[.int .i64 1] _ _ _ h | have k1 := slh_old #[.int .i64 1] _ _ _ _ h | have k1 := h.cells k1 (fun h => h) | have k1 := (((Upd.refl noBlock _).alloc _).trans h).cells k1 (fun h => h) | skip); obtain ⟨g0, g1, g2⟩ := HC.out _ HW.out; have ga1 := fun O => (HC.out _ (HW.out.alloc O)).2.1; have ga2 := fun O => (HC.out _ (HW.out.alloc O)).2.2; clear h))
    all_goals
      go_wp2_with fail
      go_ret
      exact ⟨rfl, HB.out.trans HW.out⟩
  | false =>
    obtain rfl : x = 0 := hx
    go_enter Tryd.func17, Tryd.ntmps17
    go_upto_region 4 with fail
    rw [← HWA.out]
    clear HWA cc0
    go_region_with (first
      | (go_at_call 38; (with_reducible show Calls _ _ #[.int .i64 1, _] _ _); refine (HJ1.out _ _ ?_).mono ?_; (focus (first | exact slh_new2 #[.int .i64 0] _ _ _ _ (Upd.refl _ _) | exact slh_new #[.int .i64 0] _ _ _ (Upd.refl _ _) | exact slh_old #[.int .i64 0] _ _ _ _ (Upd.refl _ _) | exact slh_new2 #[.int .i64 0] _ _ _ _ ((Upd.refl _ _).drew) | exact slh_new #[.int .i64 0] _ _ _ ((Upd.refl _ _).drew) | exact slh_old #[.int .i64 0] _ _ _ _ ((Upd.refl _ _).drew) | exact k1 | exact ((Upd.refl noBlock _).alloc _).cells k1 (fun h => h) | exact (((Upd.refl noBlock _).alloc _).drew).cells k1 (fun h => h))); rintro e w3 ⟨rfl, h⟩; (first | replace h := Upd.undrew h | skip); (first | have HW := Lib.hid (HW.out.trans h) | have HW := Lib.hid ((HW.out.alloc _).trans h) | have HW := Lib.hid (((HW.out.alloc _).alloc _).trans h)); (first | have k8 := slh_new2 #[.int .i64 a, .int .i64 b] _ _ _ _ h | have k8 := slh_new #[.int .i64 a, .int .i64 b] _ _ _ h | have k8 := slh_old #[.int .i64 a, .int .i64 b] _ _ _ _ h | have k8 := h.cells k8 (fun h => h) | have k8 := (((Upd.refl noBlock _).alloc _).trans h).cells k8 (fun h => h) | skip); obtain ⟨f0, f1, f2⟩ := HC.out _ HW.out; have fa1 := fun O => (HC.out _ (HW.out.alloc O)).2.1; have fa2 := fun O => (HC.out _ (HW.out.alloc O)).2.2; clear h)
      | (go_at_call 38; (with_reducible show Calls _ _ #[.int .i64 8, _] _ _); refine (HJ8.out _ _ ?_).mono ?_; (focus (first | exact slh_new2 #[.int .i64 a, .int .i64 b] _ _ _ _ (Upd.refl _ _) | exact slh_new #[.int .i64 a, .int .i64 b] _ _ _ (Upd.refl _ _) | exact slh_old #[.int .i64 a, .int .i64 b] _ _ _ _ (Upd.refl _ _) | exact slh_new2 #[.int .i64 a, .int .i64 b] _ _ _ _ ((Upd.refl _ _).drew) | exact slh_new #[.int .i64 a, .int .i64 b] _ _ _ ((Upd.refl _ _).drew) | exact slh_old #[.int .i64 a, .int .i64 b] _ _ _ _ ((Upd.refl _ _).drew) | exact k8 | exact ((Upd.refl noBlock _).alloc _).cells k8 (fun h => h) | exact (((Upd.refl noBlock _).alloc _).drew).cells k8 (fun h => h))); rintro e w4 ⟨rfl, h⟩; (first | replace h := Upd.undrew h | skip); (first | have HW := Lib.hid (HW.out.trans h) | have HW := Lib.hid ((HW.out.alloc _).trans h) | have HW := Lib.hid (((HW.out.alloc _).alloc _).trans h)); (first | have k1 := slh_new2 #[.int .i64 0] _ _ _ _ h | have k1 := slh_new #[.int .i64 0] _ _ _ h | have k1 := slh_old #[.int .i64 0] _ _ _ _ h | have k1 := h.cells k1 (fun h => h) | have k1 := (((Upd.refl noBlock _).alloc _).trans h).cells k1 (fun h => h) | skip); obtain ⟨g0, g1, g2⟩ := HC.out _ HW.out; have ga1 := fun O => (HC.out _ (HW.out.alloc O)).2.1; have ga2 := fun O => (HC.out _ (HW.out.alloc O)).2.2; clear h))
    all_goals
      go_wp2_with fail
      go_ret
      exact ⟨rfl, HB.out.trans HW.out⟩
theorem putInode_any (d : Bool) (a b : Int) (w : World) :
    Calls Tryd.prog 17 #[inodeV d a b] w fun e w' => e = .returned (.string ⟨(putI d a b).toArray⟩) ∧ Upd noBlock w w' := putInode_d d _ a b rfl w
end Go.Proofs.YthlheamnfjjamaaDoor
