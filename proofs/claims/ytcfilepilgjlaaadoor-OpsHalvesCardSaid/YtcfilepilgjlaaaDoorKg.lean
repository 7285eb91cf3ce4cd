/- The document's Good and Less. -/
import Derived.Test.YtcfilepilgjlaaaDoorKf
namespace Go.Proofs.YtcfilepilgjlaaaDoor
open Go.RowKit
attribute [local irreducible] beZ valN
set_option linter.unusedSimpArgs false

set_option maxRecDepth 20000 in
set_option maxHeartbeats 3200000 in
theorem refGood_any (n k : Int) (l : List UInt8) (p : Int) (w : World) (hl : l.length ≤ maxLen) :
    Calls Tryd.prog 38 #[.agg #[.int .i64 n, .int .i64 k, .string ⟨l.toArray⟩, .int .i64 p]] w fun e w' => e = .returned (.bool (goodK n k l p)) ∧ Upd noBlock w w' := by
  have HB : Hid (Upd noBlock w (w.alloc (.cells #[.int .i64 n, .int .i64 k, .string ⟨l.toArray⟩, .int .i64 p] 69))) := (Upd.refl _ _).alloc _
  obtain ⟨q, hq⟩ : ∃ q : ByteArray, ⟨l.toArray⟩ = q := ⟨_, rfl⟩
  have hsz : q.size = l.length := by rw [← hq]; rfl
  have HE : Hid (l = [] → q = ⟨#[]⟩) := fun h => by rw [← hq, h]
  have HN : Hid (¬ l = [] → q.toList.isEmpty = false) := fun h => by rw [← hq, emp_strK]; simpa using h
  have hn : l.length ≤ 9223372036854775807 := by unfold maxLen at hl; omega
  rw [hq] at HB ⊢
  clear hq hl
  by_cases h0 : n < 0
  · have g0 : ¬ 0 ≤ n := by omega
    go_enter Tryd.func38, Tryd.ntmps38
    go_wp2_with fail
    go_ret
    exact ⟨by first | (simp [goodK, restOk, okN, g0]; done) | (simp [goodK, restOk, okN, g0]; rfl) | (simp [goodK, restOk, okN, g0]; intros; omega), HB.out⟩
  by_cases h9 : 1099511627776 < n
  · have g9 : ¬ n ≤ 1099511627776 := by omega
    go_enter Tryd.func38, Tryd.ntmps38
    go_wp2_with fail
    go_ret
    exact ⟨by first | (simp [goodK, restOk, okN, g9]; done) | (simp [goodK, restOk, okN, g9]; rfl) | (simp [goodK, restOk, okN, g9]; intros; omega), HB.out⟩
  have g0 : 0 ≤ n := by omega
  have g9 : n ≤ 1099511627776 := by omega
  by_cases k1 : k = 1
  · subst k1
    by_cases h1 : l = []
    · have e1 := HE.out h1
      subst e1
      go_enter Tryd.func38, Tryd.ntmps38
      go_wp2_with fail
      go_ret
      exact ⟨by first | (simp [goodK, restOk, okN, g0, g9, h1]; done) | (simp [goodK, restOk, okN, g0, g9, h1]; rfl) | (simp [goodK, restOk, okN, g0, g9, h1]; intros; omega), HB.out⟩
    · have e1 := HN.out h1
      go_enter Tryd.func38, Tryd.ntmps38
      go_wp2_with fail
      go_ret
      exact ⟨by first | (simp [goodK, restOk, okN, g0, g9, h1]; done) | (simp [goodK, restOk, okN, g0, g9, h1]; rfl) | (simp [goodK, restOk, okN, g0, g9, h1]; intros; omega), HB.out⟩
  by_cases k2 : k = 2
  · subst k2
    by_cases h1 : 1 ≤ l.length
    · have hi1 : (1 : Int) ≤ (l.length : Int) := by omega
      by_cases h2 : l.length ≤ 32
      · go_enter Tryd.func38, Tryd.ntmps38
        go_wp2_with fail
        go_ret
        exact ⟨by first | (simp [goodK, restOk, okN, g0, g9, h1, h2]; done) | (simp [goodK, restOk, okN, g0, g9, h1, h2]; rfl) | (simp [goodK, restOk, okN, g0, g9, h1, h2]; intros; omega), HB.out⟩
      · go_enter Tryd.func38, Tryd.ntmps38
        go_wp2_with fail
        go_ret
        exact ⟨by first | (simp [goodK, restOk, okN, g0, g9, h1, h2]; done) | (simp [goodK, restOk, okN, g0, g9, h1, h2]; rfl) | (simp [goodK, restOk, okN, g0, g9, h1, h2]; intros; omega), HB.out⟩
    · have hi1 : ¬ (1 : Int) ≤ (l.length : Int) := by omega
      go_enter Tryd.func38, Tryd.ntmps38
      go_wp2_with fail
      go_ret
      exact ⟨by first | (simp [goodK, restOk, okN, g0, g9, h1]; done) | (simp [goodK, restOk, okN, g0, g9, h1]; rfl) | (simp [goodK, restOk, okN, g0, g9, h1]; intros; omega), HB.out⟩
  by_cases k3 : k = 3
  · subst k3
    by_cases h1 : l = []
    · have e1 := HE.out h1
      subst e1
      by_cases h2 : 0 ≤ p
      · go_enter Tryd.func38, Tryd.ntmps38
        go_wp2_with fail
        go_ret
        exact ⟨by first | (simp [goodK, restOk, okN, g0, g9, h1, h2]; done) | (simp [goodK, restOk, okN, g0, g9, h1, h2]; rfl) | (simp [goodK, restOk, okN, g0, g9, h1, h2]; intros; omega), HB.out⟩
      · have h3 : p < 0 := by omega
        go_enter Tryd.func38, Tryd.ntmps38
        go_wp2_with fail
        go_ret
        exact ⟨by first | (simp [goodK, restOk, okN, g0, g9, h1, h2]; done) | (simp [goodK, restOk, okN, g0, g9, h1, h2]; rfl) | (simp [goodK, restOk, okN, g0, g9, h1, h2]; intros; omega), HB.out⟩
    · have e1 := HN.out h1
      go_enter Tryd.func38, Tryd.ntmps38
      go_wp2_with fail
      go_ret
      exact ⟨by first | (simp [goodK, restOk, okN, g0, g9, h1]; done) | (simp [goodK, restOk, okN, g0, g9, h1]; rfl) | (simp [goodK, restOk, okN, g0, g9, h1]; intros; omega), HB.out⟩
  · go_enter Tryd.func38, Tryd.ntmps38
    go_wp2_with fail
    go_ret
    exact ⟨by first | (simp [goodK, restOk, okN, g0, g9, k1, k2, k3]; done) | (simp [goodK, restOk, okN, g0, g9, k1, k2, k3]; rfl) | (simp [goodK, restOk, okN, g0, g9, k1, k2, k3]; intros; omega), HB.out⟩
/-- the document's order of keys -/
def lessK (n k : Int) (s : List UInt8) (p : Int) (n' k' : Int) (s' : List UInt8) (p' : Int) : Bool :=
  if n ≠ n' then decide (n < n') else if k ≠ k' then decide (k < k') else if s ≠ s' then Op.bytesLess s s' else decide (p < p')
theorem toL (l : List UInt8) : (ByteArray.mk l.toArray).toList = l := by rw [ByteArray.toList_eq]
end Go.Proofs.YtcfilepilgjlaaaDoor
