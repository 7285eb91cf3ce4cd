/- key.Encode. -/
import Derived.Test.YtcfilepilgjlaaaDoorKc
namespace Go.Proofs.YtcfilepilgjlaaaDoor
open Go.RowKit
attribute [local irreducible] beZ valN

theorem cat_bytesK (a b : List UInt8) : (ByteArray.mk a.toArray) ++ (ByteArray.mk b.toArray) = ByteArray.mk (a ++ b).toArray := by
  apply ByteArray.ext; simp
theorem restOk_kind {k : Int} {s : List UInt8} {p : Int} (h : restOk k s p = true) : (k = 1 ∧ s = [] ∧ p = 0) ∨ (k = 2 ∧ 1 ≤ s.length ∧ s.length ≤ 32 ∧ p = 0) ∨ (k = 3 ∧ s = [] ∧ 0 ≤ p ∧ p ≤ 4294967295) := by
  unfold restOk at h
  split at h
  · simp at h; exact .inl ⟨by assumption, h.1, h.2⟩
  · split at h
    · simp at h; exact .inr (.inl ⟨by assumption, h.1.1, h.1.2, h.2⟩)
    · split at h
      · simp at h; exact .inr (.inr ⟨by assumption, h.1.1, h.1.2, h.2⟩)
      · cases h
set_option maxRecDepth 20000 in
set_option maxHeartbeats 1600000 in
theorem Encode_any (n k : Int) (l : List UInt8) (p : Int) (w : World) (hl : l.length ≤ maxLen) :
    Calls Tryd.prog 21 #[.agg #[.int .i64 n, .int .i64 k, .string ⟨l.toArray⟩, .int .i64 p]] w fun e w' => e = .returned (.tuple #[.string ⟨(if goodK n k l p then encK n k l p else []).toArray⟩, .bool (goodK n k l p)]) ∧ Upd noBlock w w' := by
  obtain ⟨BX, hBX⟩ : ∃ BX, BX = Obj.cells #[.int .i64 n, .int .i64 k, .string ⟨l.toArray⟩, .int .i64 p] 40 (0, 0) := ⟨_, rfl⟩
  have HV := isValid_any n k l p (w.alloc BX) hl
  have hnew : (w.alloc BX).heap[w.heap.size]? = some (.cells #[.int .i64 n, .int .i64 k, .string ⟨l.toArray⟩, .int .i64 p] 40 (0, 0)) := by rw [← hBX]; exact heap_alloc_new w _
  have HB : Hid (Upd noBlock w (w.alloc BX)) := (Upd.refl _ _).alloc _
  obtain ⟨q, hq⟩ : ∃ q : ByteArray, ⟨l.toArray⟩ = q := ⟨_, rfl⟩
  have hsz : q.size = l.length := by rw [← hq]; rfl
  have hn : l.length ≤ 9223372036854775807 := by unfold maxLen at hl; omega
  have HC : Hid (∀ w1, Upd noBlock (w.alloc BX) w1 → w1.cell? ⟨w.heap.size, 0, none⟩ = some (.int .i64 n) ∧ w1.cell? ⟨w.heap.size, 1, none⟩ = some (.int .i64 k) ∧ w1.cell? ⟨w.heap.size, 2, none⟩ = some (.string q) ∧ w1.cell? ⟨w.heap.size, 3, none⟩ = some (.int .i64 p)) := fun w1 hu => by
    rw [hq] at hnew
    have h2 := hu.cells hnew (fun h => h)
    exact ⟨cell_of h2 0, cell_of h2 1, cell_of h2 2, cell_of h2 3⟩
  obtain ⟨HH, hHH⟩ : ∃ L, beZ 8 n ++ beZ 1 k = L := ⟨_, rfl⟩
  have HD := head_any n k
  rw [hHH] at HD
  have hHl : HH.length = 9 := by rw [← hHH, List.length_append, beZ_length, beZ_length]
  have hE : encK n k l p = HH ++ (if k = 2 then l else if k = 3 then beZ 4 p else []) := by rw [← hHH]; rfl
  obtain ⟨qh, hqh⟩ : ∃ q : ByteArray, ⟨HH.toArray⟩ = q := ⟨_, rfl⟩
  have hqz : qh.size = 9 := by rw [← hqh]; exact hHl
  rw [hqh] at HD
  replace HD := Lib.hid HD
  clear hHH hnew hl
  by_cases hg : goodK n k l p = true
  · rw [hg, if_pos rfl, hE]
    rw [hg, hBX, hq] at HV
    replace HV := Lib.hid HV
    have hr : restOk k l p = true := by unfold goodK at hg; rw [Bool.and_eq_true] at hg; exact hg.2
    rcases restOk_kind hr with ⟨rfl, rfl, rfl⟩ | ⟨rfl, h1, h2, rfl⟩ | ⟨rfl, rfl, h1, h2⟩
    · rw [if_neg (by decide), if_neg (by decide), List.append_nil, hqh, hq]
      rw [hBX, hq] at HB HC
      clear hBX hq hqh hr hg hE
      go_enter Tryd.func21, Tryd.ntmps21
      go_wp2_with (first | (go_at_call 26; refine HV.out.mono ?_; rintro e w1 ⟨rfl, h⟩; have HA := Lib.hid h; obtain ⟨c0, c1, c2, c3⟩ := HC.out _ h; clear h) | (go_at_call 27; refine (HD.out _).mono ?_; rintro e w2 ⟨rfl, h⟩; have HA2 := Lib.hid (HA.out.trans h); obtain ⟨d0, d1, d2, d3⟩ := HC.out _ HA2.out; clear h))
      go_ret2
      exact ⟨rfl, HB.out.trans HA2.out⟩
    · have hcat := cat_bytesK HH l
      rw [if_pos rfl, ← hcat, hqh, hq]
      rw [hBX, hq] at HB HC
      clear hBX hq hqh hr hg hE hcat
      go_enter Tryd.func21, Tryd.ntmps21
      go_wp2_with (first | (go_at_call 26; refine HV.out.mono ?_; rintro e w1 ⟨rfl, h⟩; have HA := Lib.hid h; obtain ⟨c0, c1, c2, c3⟩ := HC.out _ h; clear h) | (go_at_call 27; refine (HD.out _).mono ?_; rintro e w2 ⟨rfl, h⟩; have HA2 := Lib.hid (HA.out.trans h); obtain ⟨d0, d1, d2, d3⟩ := HC.out _ HA2.out; clear h))
      go_ret2
      exact ⟨rfl, HB.out.trans HA2.out⟩
    · have hcat := cat_bytesK HH (beZ 4 p)
      have HJ := Join1A 4 (by omega) 4 rfl p
      obtain ⟨q4, hq4⟩ : ∃ q : ByteArray, ⟨(beZ 4 p).toArray⟩ = q := ⟨_, rfl⟩
      have hz4 : q4.size = 4 := by rw [← hq4]; exact beZ_length 4 p
      rw [if_neg (by decide), if_pos rfl, ← hcat, hqh, hq4, hq]
      rw [hq4] at HJ
      rw [hBX, hq] at HB HC
      replace HJ := Lib.hid HJ
      clear hBX hq hqh hr hg hE hcat hq4
      go_enter Tryd.func21, Tryd.ntmps21
      go_wp2_with (first | (go_at_call 28; refine (HJ.out _).mono ?_; rintro e w3 ⟨rfl, h⟩; have HA3 := Lib.hid (HA2.out.trans h); clear h) | (go_at_call 26; refine HV.out.mono ?_; rintro e w1 ⟨rfl, h⟩; have HA := Lib.hid h; obtain ⟨c0, c1, c2, c3⟩ := HC.out _ h; clear h) | (go_at_call 27; refine (HD.out _).mono ?_; rintro e w2 ⟨rfl, h⟩; have HA2 := Lib.hid (HA.out.trans h); obtain ⟨d0, d1, d2, d3⟩ := HC.out _ HA2.out; clear h))
      go_ret2
      exact ⟨rfl, HB.out.trans HA3.out⟩
  · have hg' : goodK n k l p = false := by simpa using hg
    rw [hg', if_neg (by decide)]
    rw [hg', hBX, hq] at HV
    rw [hBX, hq] at HB
    rw [hq]
    replace HV := Lib.hid HV
    clear hBX hq hqh hg hE HC HD
    go_enter Tryd.func21, Tryd.ntmps21
    go_wp2_with (go_at_call 26; refine HV.out.mono ?_; rintro e w1 ⟨rfl, h⟩; have HA := Lib.hid h; clear h)
    go_ret2
    exact ⟨rfl, HB.out.trans HA.out⟩
end Go.Proofs.YtcfilepilgjlaaaDoor
