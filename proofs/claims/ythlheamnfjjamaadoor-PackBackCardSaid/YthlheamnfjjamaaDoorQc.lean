/- The packer: Add, where the text fits into a page. -/
import Derived.Test.YthlheamnfjjamaaDoorQb
namespace Go.Proofs.YthlheamnfjjamaaDoor
open Go.RowKit

theorem bc_cellsQ (q : ByteArray) : byteCells q = bc q.data.toList := rfl
set_option maxRecDepth 20000 in
set_option maxHeartbeats 800000 in
theorem add_fits (B g s p : Nat) (L : List UInt8) (q : ByteArray) (w : World) (h : PK w B g s L p) (hq0 : 0 < q.size) (hq : L.length + q.size ≤ s) :
    Calls Tryd.prog 31 #[.pointer (some ⟨g, 0, none⟩), .string q] w fun e w' => e = .returned (.tuple #[.string ⟨([] : List UInt8).toArray⟩, .bool false, .int .i64 0]) ∧ PK w' B g s (L ++ q.data.toList) p ∧ Turn B g w w' := by
  obtain ⟨i0, hi0, hz0, hz1, hz2⟩ := info_parts byteInfoB
  obtain ⟨h1, h2, h3, h4, h5, v, h6, h7⟩ := h
  have e0 : q.toList.isEmpty = false := by rw [empQ, decide_eq_false (by omega)]
  have c0 : w.cell? ⟨g, 0, none⟩ = some (.int .i64 (s : Int)) := cell_of h6 0
  have hle : q.size ≤ s := by omega
  have HA := Lib.hid (fadd_fits g s L.length q.size _ _ w h6 rfl rfl h4 hq)
  obtain ⟨k, hk⟩ : ∃ k, L.length = k := ⟨_, rfl⟩
  have HW : Hid (∀ w1 : World, w1.heap[g]? = some (.cells #[.int .i64 (s : Int), .int .i64 ((L.length + q.size : Nat) : Int), .int .i64 (p : Int), v] 100 (0, 0)) → Upd (oneBlock g) w w1 →
      w1.cell? ⟨g, 3, none⟩ = some v ∧ w1.ownsRow B 5 1 v k (bc L) ∧ B ≤ w1.heap.size ∧ ∀ v' w2, w2.ownsRow B 5 1 v' (k + q.size) (bc L ++ byteCells q) → w1.grownBy w2 v.ownBlock →
        (∃ a n c, v' = .slice a n c) ∧ w2.cell? ⟨g, 3, none⟩ = some v ∧ w2.frozen? ⟨g, 3, none⟩ = false ∧ PK (w2.setCell ⟨g, 3, none⟩ v') B g s (L ++ q.data.toList) p ∧ Turn B g w (w2.setCell ⟨g, 3, none⟩ v')) := fun w1 hb hu => by
    have ho : OwnB w1 B v L := h7.upd hu (ownB_ne h7 h6)
    have hB : B ≤ w1.heap.size := Nat.le_trans h2 hu.size
    refine ⟨cell_of hb 3, by rw [← hk]; exact ho, hB, fun v' w2 hr hg => ?_⟩
    have ho2 : OwnB w2 B v' (L ++ q.data.toList) := OwnB.join (bc_cellsQ q) rfl (by rw [hk]; exact hr)
    obtain ⟨r1, r2, r3, r4⟩ := stored hb hB ho hg ho2
    have hlen : (L ++ q.data.toList).length = L.length + q.size := by rw [List.length_append]; rfl
    refine ⟨(let ⟨a, c, e⟩ := ho2.slice; ⟨a, _, c, e⟩), cell_of r1 3, free_of r1 3, ⟨h1, Nat.le_trans hB r4.size, h3, h4, by omega, v', ?_, r3⟩, (Turn.of_upd hu h2 h6).trans r4⟩
    rw [hlen]; exact r2
  have HS : Hid (∀ W, Src Tryd.prog 1 9 (.string q) q.size (byteCells q) W) := fun W => Src.ofString W Tryd.underlying9 q
  have hk4 : k ≤ 2048 := by omega
  have hq4 : q.size ≤ 2048 := by omega
  clear h1 h2 h3 h5 h6 h7 hk hq
  go_enter Tryd.func31, Tryd.ntmps31
  go_wp2_with (first
    | (go_at_call 52; refine HA.out.mono ?_; rintro e w1 ⟨rfl, hb1, hu1⟩; obtain ⟨c3, ho, hB, hst⟩ := HW.out w1 hb1 hu1; have HO := Lib.hid ho; have HB := Lib.hid hB; have HST := Lib.hid hst; clear hb1 hu1 ho hB hst)
    | (at_builtin; refine wpList_append_src _ rfl (.tmp 36) (.tmp 37) 59 9 rfl B 5 i0 (.int .u8 0) 1 Tryd.underlying59 hi0 hz0 hz1 hz2 rfl v k (bc L) rfl HO.out _ q.size _ rfl (HS.out _) hq0 (by unfold maxLen; omega) (by omega) HB.out ?_; intro v' w2 hr hg _; obtain ⟨⟨a', n', c', rfl⟩, c3', f3', hpk, htn⟩ := HST.out v' w2 hr hg; have HPK := Lib.hid hpk; have HTN := Lib.hid htn; clear hr hg hpk htn))
  go_ret3
  exact ⟨rfl, HPK.out, HTN.out⟩
set_option maxRecDepth 20000 in
set_option maxHeartbeats 800000 in
theorem add_full (B g s p : Nat) (L : List UInt8) (q : ByteArray) (w : World) (h : PK w B g s L p) (hqs : q.size ≤ s) (hq : s < L.length + q.size) (hp : p < 4611686018427387904) :
    Calls Tryd.prog 31 #[.pointer (some ⟨g, 0, none⟩), .string q] w fun e w' => e = .returned (.tuple #[.string ⟨L.toArray⟩, .bool true, .int .i64 0]) ∧ PK w' B g s q.data.toList (p + 1) ∧ Turn B g w w' := by
  obtain ⟨i0, hi0, hz0, hz1, hz2⟩ := info_parts byteInfoB
  obtain ⟨h1, h2, h3, h4, h5, v, h6, h7⟩ := h
  have hq0 : 0 < q.size := by omega
  have e0 : q.toList.isEmpty = false := by rw [empQ, decide_eq_false (by omega)]
  have c0 : w.cell? ⟨g, 0, none⟩ = some (.int .i64 (s : Int)) := cell_of h6 0
  have HA := Lib.hid (fadd_full g s L.length p q.size _ _ w h6 rfl rfl rfl h4 h5 hqs hq hp)
  have HT : Hid (∀ w1 : World, w1.heap[g]? = some (.cells #[.int .i64 (s : Int), .int .i64 (q.size : Int), .int .i64 ((p : Int) + 1), v] 100 (0, 0)) → Upd (oneBlock g) w w1 →
      Calls Tryd.prog 53 #[.pointer (some ⟨g, 0, none⟩)] w1 fun e w' => e = .returned (.string ⟨L.toArray⟩) ∧ ∃ v0, w'.cell? ⟨g, 3, none⟩ = some v0 ∧ w'.ownsRow B 5 1 v0 0 [] ∧ B ≤ w'.heap.size ∧ ∀ v' w2, w2.ownsRow B 5 1 v' (0 + q.size) ([] ++ byteCells q) → w'.grownBy w2 v0.ownBlock →
        (∃ a n c, v' = .slice a n c) ∧ w2.cell? ⟨g, 3, none⟩ = some v0 ∧ w2.frozen? ⟨g, 3, none⟩ = false ∧ PK (w2.setCell ⟨g, 3, none⟩ v') B g s q.data.toList (p + 1) ∧ Turn B g w (w2.setCell ⟨g, 3, none⟩ v')) := fun w1 hb hu =>
    (take_any B g _ _ _ v L w1 hb (Nat.le_trans h2 hu.size) (h7.upd hu (ownB_ne h7 h6))).mono fun e w' ⟨e1, v0, r1, r2, r3⟩ => by
      have hB : B ≤ w'.heap.size := Nat.le_trans (Nat.le_trans h2 hu.size) r3.size
      refine ⟨e1, v0, cell_of r1 3, r2, hB, fun v' w2 hr hg => ?_⟩
      have ho2 : OwnB w2 B v' ([] ++ q.data.toList) := OwnB.join (bc_cellsQ q) rfl hr
      obtain ⟨s1, s2, s3, s4⟩ := stored r1 hB r2 hg ho2
      exact ⟨(let ⟨a, c, e⟩ := ho2.slice; ⟨a, _, c, e⟩), cell_of s1 3, free_of s1 3, ⟨h1, Nat.le_trans hB s4.size, h3, h4, hqs, v', s2, s3⟩, ((Turn.of_upd hu h2 h6).trans r3).trans s4⟩
  have HS : Hid (∀ W, Src Tryd.prog 1 9 (.string q) q.size (byteCells q) W) := fun W => Src.ofString W Tryd.underlying9 q
  have hq4 : q.size ≤ 2048 := by omega
  clear h1 h2 h3 h5 h6 h7 hq
  go_enter Tryd.func31, Tryd.ntmps31
  go_wp2_with (first
    | (go_at_call 52; refine HA.out.mono ?_; rintro e w1 ⟨rfl, hb1, hu1⟩; have HK := Lib.hid (HT.out w1 hb1 hu1); clear hb1 hu1)
    | (go_at_call 53; refine HK.out.mono ?_; rintro e w1' ⟨rfl, v0, c3, ho, hB, hst⟩; have HO := Lib.hid ho; have HB := Lib.hid hB; have HST := Lib.hid hst; clear ho hB hst)
    | (at_builtin; refine wpList_append_src _ rfl (.tmp 36) (.tmp 37) 59 9 rfl B 5 i0 (.int .u8 0) 1 Tryd.underlying59 hi0 hz0 hz1 hz2 rfl v0 0 [] rfl HO.out _ q.size _ rfl (HS.out _) hq0 (by unfold maxLen; omega) (by omega) HB.out ?_; intro v' w2 hr hg _; obtain ⟨⟨a', n', c', rfl⟩, c3', f3', hpk, htn⟩ := HST.out v' w2 hr hg; have HPK := Lib.hid hpk; have HTN := Lib.hid htn; clear hr hg hpk htn))
  go_ret3
  exact ⟨rfl, HPK.out, HTN.out⟩
end Go.Proofs.YthlheamnfjjamaaDoor
