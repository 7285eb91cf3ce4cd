/- key: head, isKind, isValid. -/
import Derived.Test.YtcfilepilgjlaaaDoorKb
namespace Go.Proofs.YtcfilepilgjlaaaDoor
open Go.RowKit

attribute [local irreducible] beZ valN
def restOk (k : Int) (s : List UInt8) (p : Int) : Bool :=
  if k = 1 then decide (s = []) && decide (p = 0) else if k = 2 then decide (1 ≤ s.length) && decide (s.length ≤ 32) && decide (p = 0) else if k = 3 then decide (s = []) && decide (0 ≤ p) && decide (p ≤ 4294967295) else false
/-- a valid key -/
def goodK (n k : Int) (s : List UInt8) (p : Int) : Bool := okN n && restOk k s p
/-- its text -/
def encK (n k : Int) (s : List UInt8) (p : Int) : List UInt8 := beZ 8 n ++ beZ 1 k ++ (if k = 2 then s else if k = 3 then beZ 4 p else [])

set_option maxRecDepth 20000 in
set_option maxHeartbeats 1600000 in
theorem head_any (n k : Int) (w : World) :
    Calls Tryd.prog 27 #[.int .i64 n, .int .i64 k] w fun e w' => e = .returned (.string ⟨(beZ 8 n ++ beZ 1 k).toArray⟩) ∧ Upd noBlock w w' := by
  have H8 := Join1A 8 (by omega) 8 rfl n
  have H1 := Join1A 1 (by omega) 1 rfl k
  have hc : (⟨(beZ 8 n).toArray⟩ : ByteArray) ++ ⟨(beZ 1 k).toArray⟩ = ⟨(beZ 8 n ++ beZ 1 k).toArray⟩ := by apply ByteArray.ext; simp
  have z8 : (ByteArray.mk (beZ 8 n).toArray).size = 8 := beZ_length 8 n
  have z1 : (ByteArray.mk (beZ 1 k).toArray).size = 1 := beZ_length 1 k
  rw [← hc]
  clear hc
  obtain ⟨q8, h8⟩ : ∃ q : ByteArray, ⟨(beZ 8 n).toArray⟩ = q := ⟨_, rfl⟩
  obtain ⟨q1, h1⟩ : ∃ q : ByteArray, ⟨(beZ 1 k).toArray⟩ = q := ⟨_, rfl⟩
  rw [h8] at H8 z8 ⊢
  rw [h1] at H1 z1 ⊢
  clear h8 h1
  replace H8 := Lib.hid H8
  replace H1 := Lib.hid H1
  go_enter Tryd.func27, Tryd.ntmps27
  go_wp2_with (first | (go_at_call 28; have _t := HA; refine (H1.out _).mono ?_; rintro e w2 ⟨rfl, h⟩; have HB := Lib.hid (HA.out.trans h); clear h HA) | (go_at_call 28; refine (H8.out _).mono ?_; rintro e w1 ⟨rfl, h⟩; have HA := Lib.hid h; clear h))
  go_ret
  exact ⟨rfl, HB.out⟩
theorem emp_strK (l : List UInt8) : (ByteArray.mk l.toArray).toList.isEmpty = l.isEmpty := by
  rw [ByteArray.toList_eq]
set_option maxRecDepth 20000 in
set_option maxHeartbeats 1600000 in
theorem isValid_any (n k : Int) (l : List UInt8) (p : Int) (w : World) (hl : l.length ≤ maxLen) :
    Calls Tryd.prog 26 #[.agg #[.int .i64 n, .int .i64 k, .string ⟨l.toArray⟩, .int .i64 p]] w fun e w' => e = .returned (.bool (goodK n k l p)) ∧ Upd noBlock w w' := by
  have HB : Hid (Upd noBlock w (w.alloc (.cells #[.int .i64 n, .int .i64 k, .string ⟨l.toArray⟩, .int .i64 p] 40))) := (Upd.refl _ _).alloc _
  obtain ⟨q, hq⟩ : ∃ q : ByteArray, ⟨l.toArray⟩ = q := ⟨_, rfl⟩
  have hsz : q.size = l.length := by rw [← hq]; rfl
  have HE : Hid (l = [] → q = ⟨#[]⟩) := fun h => by rw [← hq, h]
  have HN : Hid (¬ l = [] → q.toList.isEmpty = false) := fun h => by rw [← hq, emp_strK]; simpa using h
  have hn : l.length ≤ 9223372036854775807 := by unfold maxLen at hl; omega
  rw [hq] at HB ⊢
  clear hq hl
  have HC : Hid (∀ w1, Upd noBlock (w.alloc (.cells #[.int .i64 n, .int .i64 k, .string q, .int .i64 p] 40)) w1 → w1.cell? ⟨w.heap.size, 1, none⟩ = some (.int .i64 k) ∧ w1.cell? ⟨w.heap.size, 2, none⟩ = some (.string q) ∧ w1.cell? ⟨w.heap.size, 3, none⟩ = some (.int .i64 p)) := fun w1 hu =>
    have h1 := heap_alloc_new w (.cells #[.int .i64 n, .int .i64 k, .string q, .int .i64 p] 40)
    ⟨upd_cell hu (by rw [cell_of h1]; rfl), upd_cell hu (by rw [cell_of h1]; rfl), upd_cell hu (by rw [cell_of h1]; rfl)⟩
  have HV := Valid1A n (w.alloc (.cells #[.int .i64 n, .int .i64 k, .string q, .int .i64 p] 40))
  rw [World.size_alloc] at HV
  replace HV := Lib.hid HV
  by_cases h0 : okN n = true
  · have hg : goodK n k l p = restOk k l p := by simp [goodK, h0]
    rw [hg]
    rw [h0] at HV
    by_cases k1 : k = 1
    · subst k1
      by_cases h1 : l = []
      · have e1 := HE.out h1
        subst e1
        go_enter Tryd.func26, Tryd.ntmps26
        go_wp2_with (go_at_call 32; refine HV.out.mono ?_; rintro e w1 ⟨rfl, h⟩; have HA := Lib.hid (HB.out.trans h); obtain ⟨c1, c2, c3⟩ := HC.out _ h; clear h)
        go_ret
        exact ⟨by first | (simp [restOk, h1]; done) | (simp [restOk, h1]; rfl), HA.out⟩
      · have e1 := HN.out h1
        go_enter Tryd.func26, Tryd.ntmps26
        go_wp2_with (go_at_call 32; refine HV.out.mono ?_; rintro e w1 ⟨rfl, h⟩; have HA := Lib.hid (HB.out.trans h); obtain ⟨c1, c2, c3⟩ := HC.out _ h; clear h)
        go_ret
        exact ⟨by first | (simp [restOk, h1]; done) | (simp [restOk, h1]; rfl), HA.out⟩
    · by_cases k2 : k = 2
      · subst k2
        by_cases h1 : l = []
        · have e1 := HE.out h1
          subst e1
          go_enter Tryd.func26, Tryd.ntmps26
          go_wp2_with (go_at_call 32; refine HV.out.mono ?_; rintro e w1 ⟨rfl, h⟩; have HA := Lib.hid (HB.out.trans h); obtain ⟨c1, c2, c3⟩ := HC.out _ h; clear h)
          go_ret
          exact ⟨by first | (simp [restOk, h1]; done) | (simp [restOk, h1]; rfl), HA.out⟩
        · have e1 := HN.out h1
          have hl1 : 1 ≤ l.length := List.length_pos_iff.2 h1
          by_cases h2 : l.length ≤ 32
          · go_enter Tryd.func26, Tryd.ntmps26
            go_wp2_with (go_at_call 32; refine HV.out.mono ?_; rintro e w1 ⟨rfl, h⟩; have HA := Lib.hid (HB.out.trans h); obtain ⟨c1, c2, c3⟩ := HC.out _ h; clear h)
            go_ret
            exact ⟨by first | (simp [restOk, hl1, h2]; done) | (simp [restOk, hl1, h2]; rfl), HA.out⟩
          · go_enter Tryd.func26, Tryd.ntmps26
            go_wp2_with (go_at_call 32; refine HV.out.mono ?_; rintro e w1 ⟨rfl, h⟩; have HA := Lib.hid (HB.out.trans h); obtain ⟨c1, c2, c3⟩ := HC.out _ h; clear h)
            go_ret
            exact ⟨by first | (simp [restOk, hl1, h2]; done) | (simp [restOk, hl1, h2]; rfl), HA.out⟩
      · by_cases k3 : k = 3
        · subst k3
          by_cases h1 : l = []
          · have e1 := HE.out h1
            subst e1
            by_cases h2 : 0 ≤ p
            · go_enter Tryd.func26, Tryd.ntmps26
              go_wp2_with (go_at_call 32; refine HV.out.mono ?_; rintro e w1 ⟨rfl, h⟩; have HA := Lib.hid (HB.out.trans h); obtain ⟨c1, c2, c3⟩ := HC.out _ h; clear h)
              go_ret
              exact ⟨by first | (simp [restOk, h1, h2]; done) | (simp [restOk, h1, h2]; rfl), HA.out⟩
            · go_enter Tryd.func26, Tryd.ntmps26
              go_wp2_with (go_at_call 32; refine HV.out.mono ?_; rintro e w1 ⟨rfl, h⟩; have HA := Lib.hid (HB.out.trans h); obtain ⟨c1, c2, c3⟩ := HC.out _ h; clear h)
              go_ret
              have h3 : ¬ 0 ≤ p := by omega
              exact ⟨by first | (simp [restOk, h3]; done) | (simp [restOk, h3]; rfl), HA.out⟩
          · have e1 := HN.out h1
            go_enter Tryd.func26, Tryd.ntmps26
            go_wp2_with (go_at_call 32; refine HV.out.mono ?_; rintro e w1 ⟨rfl, h⟩; have HA := Lib.hid (HB.out.trans h); obtain ⟨c1, c2, c3⟩ := HC.out _ h; clear h)
            go_ret
            exact ⟨by first | (simp [restOk, h1]; done) | (simp [restOk, h1]; rfl), HA.out⟩
        · go_enter Tryd.func26, Tryd.ntmps26
          go_wp2_with (go_at_call 32; refine HV.out.mono ?_; rintro e w1 ⟨rfl, h⟩; have HA := Lib.hid (HB.out.trans h); obtain ⟨c1, c2, c3⟩ := HC.out _ h; clear h)
          go_ret
          exact ⟨by first | (simp [restOk, k1, k2, k3]; done) | (simp [restOk, k1, k2, k3]; rfl), HA.out⟩
  · have h0' : okN n = false := by simpa using h0
    have hg : goodK n k l p = false := by simp [goodK, h0']
    rw [hg]
    rw [h0'] at HV
    go_enter Tryd.func26, Tryd.ntmps26
    go_wp2_with (go_at_call 32; refine HV.out.mono ?_; rintro e w1 ⟨rfl, h⟩; have HA := Lib.hid (HB.out.trans h); obtain ⟨c1, c2, c3⟩ := HC.out _ h; clear h)
    go_ret
    exact ⟨rfl, HA.out⟩
end Go.Proofs.YtcfilepilgjlaaaDoor
