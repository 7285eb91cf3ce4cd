/- The document's Encode. -/
import Derived.Test.YtcfilepilgjlaaaDoorKg
namespace Go.Proofs.YtcfilepilgjlaaaDoor
open Go.RowKit
attribute [local irreducible] beZ valN
attribute [local go_sem ↓] Go.wp_at_zero Go.wp_at_succ

set_option maxRecDepth 20000 in
set_option maxHeartbeats 3200000 in
theorem refEncode_any (n k : Int) (l : List UInt8) (p : Int) (w : World) (hl : l.length ≤ maxLen) :
    Calls Tryd.prog 31 #[.agg #[.int .i64 n, .int .i64 k, .string ⟨l.toArray⟩, .int .i64 p]] w fun e w' => e = .returned (.string ⟨(if goodK n k l p then encK n k l p else []).toArray⟩) ∧ Upd noBlock w w' := by
  obtain ⟨BX, hBX⟩ : ∃ BX, BX = Obj.cells #[.int .i64 n, .int .i64 k, .string ⟨l.toArray⟩, .int .i64 p] 69 (0, 0) := ⟨_, rfl⟩
  have HV := refGood_any n k l p (w.alloc BX) hl
  have hnew : (w.alloc BX).heap[w.heap.size]? = some (.cells #[.int .i64 n, .int .i64 k, .string ⟨l.toArray⟩, .int .i64 p] 69 (0, 0)) := by rw [← hBX]; exact heap_alloc_new w _
  have HB : Hid (Upd noBlock w (w.alloc BX)) := (Upd.refl _ _).alloc _
  obtain ⟨q, hq⟩ : ∃ q : ByteArray, ⟨l.toArray⟩ = q := ⟨_, rfl⟩
  have hsz : q.size = l.length := by rw [← hq]; rfl
  have hn : l.length ≤ 9223372036854775807 := by unfold maxLen at hl; omega
  have HC : Hid (∀ w1, Upd noBlock (w.alloc BX) w1 → w1.cell? ⟨w.heap.size, 0, none⟩ = some (.int .i64 n) ∧ w1.cell? ⟨w.heap.size, 1, none⟩ = some (.int .i64 k) ∧ w1.cell? ⟨w.heap.size, 2, none⟩ = some (.string q) ∧ w1.cell? ⟨w.heap.size, 3, none⟩ = some (.int .i64 p)) := fun w1 hu => by
    rw [hq] at hnew
    have h2 := hu.cells hnew (fun h => h)
    exact ⟨cell_of h2 0, cell_of h2 1, cell_of h2 2, cell_of h2 3⟩
  clear hnew
  by_cases hg : goodK n k l p = true
  · rw [hg, if_pos rfl]
    rw [hg, hBX, hq] at HV
    replace HV := Lib.hid HV
    have hr := hg
    unfold goodK at hr
    rw [Bool.and_eq_true, okN_iff] at hr
    obtain ⟨⟨n0, n1⟩, hr⟩ := hr
    obtain ⟨m, rfl⟩ : ∃ m : Nat, n = (m : Int) := ⟨n.toNat, by omega⟩
    have HD8 := refBytesA 8 (by omega) 8 rfl (m : Int) (by omega) (by omega)
    have hk : 0 ≤ k ∧ k ≤ 3 := by
      rcases restOk_kind hr with ⟨rfl, _⟩ | ⟨rfl, _⟩ | ⟨rfl, _⟩ <;> exact ⟨by omega, by omega⟩
    have HD1 := refBytesA 1 (by omega) 1 rfl k (by omega) (by omega)
    obtain ⟨L8, hL8⟩ : ∃ L, beZ 8 (m : Int) = L := ⟨_, rfl⟩
    obtain ⟨L1, hL1⟩ : ∃ L, beZ 1 k = L := ⟨_, rfl⟩
    have hl8 : L8.length = 8 := by rw [← hL8]; exact beZ_length _ _
    have hl1 : L1.length = 1 := by rw [← hL1]; exact beZ_length _ _
    have hE : encK (m : Int) k l p = (L8 ++ L1) ++ (if k = 2 then l else if k = 3 then beZ 4 p else []) := by rw [← hL8, ← hL1]; rfl
    rw [hE]
    simp only [hL8] at HD8
    simp only [hL1] at HD1
    have HC1 := cat_bytesK L8 L1
    have HC2 := cat_bytesK (L8 ++ L1) l
    have HC4 := cat_bytesK (L8 ++ L1) (beZ 4 p)
    obtain ⟨q8, hq8⟩ : ∃ q : ByteArray, ⟨L8.toArray⟩ = q := ⟨_, rfl⟩
    obtain ⟨q1, hq1⟩ : ∃ q : ByteArray, ⟨L1.toArray⟩ = q := ⟨_, rfl⟩
    obtain ⟨qh, hqh⟩ : ∃ q : ByteArray, ⟨(L8 ++ L1).toArray⟩ = q := ⟨_, rfl⟩
    have hz8 : q8.size = 8 := by rw [← hq8]; exact hl8
    have hz1 : q1.size = 1 := by rw [← hq1]; exact hl1
    have hzh : qh.size = 9 := by rw [← hqh]; show (L8 ++ L1).length = 9; rw [List.length_append, hl8, hl1]
    rw [hq8, hq1, hqh] at HC1
    rw [hqh] at HC2 HC4
    rw [hq] at HC2
    simp only [hq8] at HD8
    simp only [hq1] at HD1
    replace HD8 := Lib.hid HD8
    replace HD1 := Lib.hid HD1
    rw [hq]
    rw [hBX, hq] at HB HC
    clear hE hL8 hL1 hl8 hl1 hq8 hq1 hBX hl
    rcases restOk_kind hr with ⟨rfl, rfl, rfl⟩ | ⟨rfl, h1, h2, rfl⟩ | ⟨rfl, rfl, h1, h2⟩
    · rw [if_neg (by decide), if_neg (by decide), List.append_nil, hqh]
      have hqe : qh ++ q = qh := by rw [← hq]; apply ByteArray.ext; simp
      clear hq hqh hr hg HC2 HC4
      go_enter Tryd.func31, Tryd.ntmps31
      go_wp2_with (go_at_call 38; refine HV.out.mono ?_; rintro e w1 ⟨rfl, h⟩; have HA := Lib.hid h; obtain ⟨c0, c1, c2, c3⟩ := HC.out _ h; clear h)
      go_region_with (first | (go_at_call 39; with_reducible refine (HD8.out _).mono ?_; rintro e w2 ⟨rfl, h⟩; (first | (have HX := Lib.hid (HX.out.trans h)) | (have HX := Lib.hid (HA.out.drew.trans h))); obtain ⟨d0, d1, d2, d3⟩ := HC.out _ HX.out; clear h) | (go_at_call 39; with_reducible refine (HD1.out _).mono ?_; rintro e w3 ⟨rfl, h⟩; (first | (have HX := Lib.hid (HX.out.trans h)) | (have HX := Lib.hid (HA.out.drew.trans h))); obtain ⟨f0, f1, f2, f3⟩ := HC.out _ HX.out; clear h))
      all_goals
        go_wp2_with fail
        go_ret
        exact ⟨rfl, HB.out.trans HX.out⟩
    · rw [if_pos rfl, ← HC2]
      clear hq hqh hr hg HC2 HC4
      go_enter Tryd.func31, Tryd.ntmps31
      go_wp2_with (go_at_call 38; refine HV.out.mono ?_; rintro e w1 ⟨rfl, h⟩; have HA := Lib.hid h; obtain ⟨c0, c1, c2, c3⟩ := HC.out _ h; clear h)
      go_region_with (first | (go_at_call 39; with_reducible refine (HD8.out _).mono ?_; rintro e w2 ⟨rfl, h⟩; (first | (have HX := Lib.hid (HX.out.trans h)) | (have HX := Lib.hid (HA.out.drew.trans h))); obtain ⟨d0, d1, d2, d3⟩ := HC.out _ HX.out; clear h) | (go_at_call 39; with_reducible refine (HD1.out _).mono ?_; rintro e w3 ⟨rfl, h⟩; (first | (have HX := Lib.hid (HX.out.trans h)) | (have HX := Lib.hid (HA.out.drew.trans h))); obtain ⟨f0, f1, f2, f3⟩ := HC.out _ HX.out; clear h))
      all_goals
        go_wp2_with fail
        go_ret
        exact ⟨rfl, HB.out.trans HX.out⟩
    · rw [if_neg (by decide), if_pos rfl, ← HC4]
      have hqe : qh ++ q = qh := by rw [← hq]; apply ByteArray.ext; simp
      obtain ⟨pn, rfl⟩ : ∃ pn : Nat, p = (pn : Int) := ⟨p.toNat, by omega⟩
      have HD4 := refBytesA 4 (by omega) 4 rfl (pn : Int) (by omega) (by omega)
      have hz4 : (⟨(beZ 4 (pn : Int)).toArray⟩ : ByteArray).size = 4 := beZ_length _ _
      obtain ⟨q4, hq4⟩ : ∃ q : ByteArray, ⟨(beZ 4 (pn : Int)).toArray⟩ = q := ⟨_, rfl⟩
      rw [hq4] at hz4 ⊢
      simp only [hq4] at HD4
      replace HD4 := Lib.hid HD4
      clear hq hqh hr hg HC2 HC4 hq4
      go_enter Tryd.func31, Tryd.ntmps31
      go_wp2_with (go_at_call 38; refine HV.out.mono ?_; rintro e w1 ⟨rfl, h⟩; have HA := Lib.hid h; obtain ⟨c0, c1, c2, c3⟩ := HC.out _ h; clear h)
      go_region_with (first | (go_at_call 39; with_reducible refine (HD8.out _).mono ?_; rintro e w2 ⟨rfl, h⟩; (first | (have HX := Lib.hid (HX.out.trans h)) | (have HX := Lib.hid (HA.out.drew.trans h))); obtain ⟨d0, d1, d2, d3⟩ := HC.out _ HX.out; clear h) | (go_at_call 39; with_reducible refine (HD1.out _).mono ?_; rintro e w3 ⟨rfl, h⟩; (first | (have HX := Lib.hid (HX.out.trans h)) | (have HX := Lib.hid (HA.out.drew.trans h))); obtain ⟨f0, f1, f2, f3⟩ := HC.out _ HX.out; clear h))
      all_goals
        go_wp2_with (go_at_call 39; with_reducible refine (HD4.out _).mono ?_; rintro e w4 ⟨rfl, h⟩; have HY := Lib.hid (HX.out.trans h); obtain ⟨g0, g1, g2, g3⟩ := HC.out _ HY.out; clear h)
        go_ret
        exact ⟨rfl, HB.out.trans HY.out⟩
  · have hg' : goodK n k l p = false := by simpa using hg
    rw [hg', if_neg (by decide)]
    rw [hg', hBX, hq] at HV
    rw [hBX, hq] at HB
    rw [hq]
    replace HV := Lib.hid HV
    clear hBX hq hg HC hl
    go_enter Tryd.func31, Tryd.ntmps31
    go_wp2_with (go_at_call 38; refine HV.out.mono ?_; rintro e w1 ⟨rfl, h⟩; have HA := Lib.hid h; clear h)
    go_ret
    exact ⟨rfl, HB.out.trans HA.out⟩
end Go.Proofs.YtcfilepilgjlaaaDoor
