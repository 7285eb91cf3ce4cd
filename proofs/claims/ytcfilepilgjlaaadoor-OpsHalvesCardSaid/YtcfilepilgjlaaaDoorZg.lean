/- The document's Unpack, whole; LzUnpacks. -/
import Derived.Test.YtcfilepilgjlaaaDoorZf
namespace Go.Proofs.YtcfilepilgjlaaaDoor
open Go.RowKit

theorem u8_gt_one (c : UInt8) (h1 : ¬ c = 1) (h0 : ¬ c = 0) : 1 < c.toNat := by
  have : ¬ c.toNat = 1 := fun h => h1 (by apply UInt8.toNat_inj.1; exact h)
  have : ¬ c.toNat = 0 := fun h => h0 (by apply UInt8.toNat_inj.1; exact h)
  omega
set_option maxRecDepth 20000 in
set_option maxHeartbeats 1600000 in
theorem refUnpack_any (s : List UInt8) (most : Int) (w : World) (hs : s.length ≤ maxLen) :
    Calls Tryd.prog 23 #[.string ⟨s.toArray⟩, .int .i64 most] w fun e w' => e = .returned (.tuple #[.string ⟨(unpackL s most).1.toArray⟩, .int .i64 (unpackL s most).2]) ∧ Upd noBlock w w' := by
  rcases s with _ | ⟨c, r⟩
  · by_cases h1 : most > 65536
    · have h2 : ¬ most < 0 := by omega
      go_enter Tryd.func23, Tryd.ntmps23
      go_wp2_with fail
      go_ret2
      exact ⟨rfl, Upd.refl _ _⟩
    · by_cases h2 : most < 0
      · go_enter Tryd.func23, Tryd.ntmps23
        go_wp2_with fail
        go_ret2
        exact ⟨rfl, Upd.refl _ _⟩
      · go_enter Tryd.func23, Tryd.ntmps23
        go_wp2_with fail
        go_ret2
        exact ⟨rfl, Upd.refl _ _⟩
  · by_cases hc1 : c = 1
    · subst hc1
      exact refUnpack_tok r most _ rfl w hs
    · obtain ⟨m, hm⟩ : ∃ m : Nat, (min (max most 0) 65536).toNat = m := ⟨_, rfl⟩
      obtain ⟨q, hq⟩ : ∃ q : ByteArray, ⟨(c :: r).toArray⟩ = q := ⟨_, rfl⟩
      have hsz : q.size = r.length + 1 := by rw [← hq]; rfl
      obtain ⟨cn, hcn⟩ : ∃ cn, c.toNat = cn := ⟨_, rfl⟩
      have hq0 : ∀ h : 0 < q.size, (q[0]'h).toNat = cn := fun h => by subst hq; exact hcn
      have hlz : ((r.length : Int) + 1 == 0) = false := by simp; omega
      have hsm : r.length + 1 ≤ 9223372036854775807 := by simp [maxLen] at hs; omega
      have hc256 : cn < 256 := by rw [← hcn]; exact c.toNat_lt
      by_cases hc0 : c = 0
      · subst hc0
        obtain rfl : cn = 0 := by rw [← hcn]; rfl
        have hU : unpackL (0 :: r) most = if m < r.length then ([], 2) else (r, 0) := by
          simp only [unpackL]
          rw [if_neg (by decide), if_pos trivial, hm]
        have hex : q.extract 1 (r.length + 1) = ⟨r.toArray⟩ := by
          rw [← hq]; apply ByteArray.ext; apply Array.ext'; simp
        by_cases hl : m < r.length
        · rw [hU, if_pos hl, hq]
          clear hU hq hcn hs
          by_cases h1 : most > 65536
          · have h2 : ¬ most < 0 := by omega
            have h3 : ((65536 : Nat) : Int) < r.length := by omega
            go_enter Tryd.func23, Tryd.ntmps23
            go_wp2_with fail
            go_ret2
            exact ⟨rfl, Upd.refl _ _⟩
          · by_cases h2 : most < 0
            · have h3 : (0 : Int) < r.length := by omega
              go_enter Tryd.func23, Tryd.ntmps23
              go_wp2_with fail
              go_ret2
              exact ⟨rfl, Upd.refl _ _⟩
            · have h3 : most < r.length := by omega
              go_enter Tryd.func23, Tryd.ntmps23
              go_wp2_with fail
              go_ret2
              exact ⟨rfl, Upd.refl _ _⟩
        · rw [hU, if_neg hl, hq]
          have hex' : ByteArray.mk r.toArray = q.extract 1 (r.length + 1) := hex.symm
          have HX := Lib.hid hex
          show Calls _ _ _ _ fun e w' => e = .returned (.tuple #[.string ⟨r.toArray⟩, .int .i64 0]) ∧ _
          obtain ⟨q2, hq2⟩ : ∃ q2 : ByteArray, ⟨r.toArray⟩ = q2 := ⟨_, rfl⟩
          rw [hq2] at hex ⊢
          clear hU hq hcn hs hex' HX hq2
          by_cases h1 : most > 65536
          · have h2 : ¬ most < 0 := by omega
            have h3 : ¬ ((65536 : Nat) : Int) < r.length := by omega
            go_enter Tryd.func23, Tryd.ntmps23
            go_wp2_with fail
            go_ret2
            exact ⟨rfl, Upd.refl _ _⟩
          · by_cases h2 : most < 0
            · have h3 : ¬ (0 : Int) < r.length := by omega
              go_enter Tryd.func23, Tryd.ntmps23
              go_wp2_with fail
              go_ret2
              exact ⟨rfl, Upd.refl _ _⟩
            · have h3 : ¬ most < r.length := by omega
              go_enter Tryd.func23, Tryd.ntmps23
              go_wp2_with fail
              go_ret2
              exact ⟨rfl, Upd.refl _ _⟩
      · have hc2 : 1 < cn := by rw [← hcn]; exact u8_gt_one c hc1 hc0
        have hU : unpackL (c :: r) most = ([], 4) := by
          simp only [unpackL]
          rw [if_neg hc1, if_neg hc0]
        rw [hU, hq]
        clear hU hq hcn hs hm
        by_cases h1 : most > 65536
        · have h2 : ¬ most < 0 := by omega
          go_enter Tryd.func23, Tryd.ntmps23
          go_wp2_with fail
          go_ret2
          exact ⟨rfl, Upd.refl _ _⟩
        · by_cases h2 : most < 0
          · go_enter Tryd.func23, Tryd.ntmps23
            go_wp2_with fail
            go_ret2
            exact ⟨rfl, Upd.refl _ _⟩
          · go_enter Tryd.func23, Tryd.ntmps23
            go_wp2_with fail
            go_ret2
            exact ⟨rfl, Upd.refl _ _⟩

end Go.Proofs.YtcfilepilgjlaaaDoor
