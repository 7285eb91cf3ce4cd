/- The document's Number. -/
import Derived.Test.YthlheamnfjjamaaDoorOp
namespace Go.Proofs.YthlheamnfjjamaaDoor
open Go.RowKit Cm

def numR (l : List UInt8) : Int := if valN l ≤ 1099511627776 then (valN l : Int) else -1
theorem valN_take (l : List UInt8) (k : Nat) (h : k < l.length) : valN (l.take (k + 1)) = 256 * valN (l.take k) + (l.getD k 0).toNat := by
  rw [List.take_add_one, List.getElem?_eq_getElem h, Option.toList_some, valN_snoc, List.getD_eq_getElem?_getD, List.getElem?_eq_getElem h]; rfl
theorem fold_mono : ∀ (b : List UInt8) (x : Nat), x ≤ b.foldl (fun a c => 256 * a + c.toNat) x
  | [], x => Nat.le_refl x
  | c :: b, x => Nat.le_trans (by omega) (fold_mono b (256 * x + c.toNat))
theorem valN_mono (l : List UInt8) (k : Nat) : valN (l.take k) ≤ valN l := by
  have h : valN l = (l.drop k).foldl (fun a c => 256 * a + c.toNat) (valN (l.take k)) := by
    unfold valN
    rw [← List.foldl_append, List.take_append_drop]
  rw [h]
  exact fold_mono _ _
set_option maxRecDepth 20000 in
theorem refNumber_any (l : List UInt8) (w : World) (hl : l.length = 8) :
    Calls Tryd.prog 23 #[.string ⟨l.toArray⟩] w fun e w' => e = .returned (.int .i64 (numR l)) ∧ w' = w := by
  obtain ⟨q, hq⟩ : ∃ q : ByteArray, ⟨l.toArray⟩ = q := ⟨_, rfl⟩
  have hsz : q.size = 8 := by rw [← hq]; exact hl
  have HQ : Hid (∀ k, (h : k < q.size) → (q[k]'h).toNat = (l.getD k 0).toNat) := fun k h => by
    subst hq
    have h' : k < l.length := h
    rw [List.getD_eq_getElem?_getD, List.getElem?_eq_getElem h']; rfl
  have HLn := Lib.hid hl
  rw [hq]
  obtain ⟨R, hR⟩ : ∃ R, numR l = R := ⟨_, rfl⟩
  rw [hR]
  have HR := Lib.hid hR
  clear hq hl hR
  go_enter Tryd.func23, Tryd.ntmps23
  go_wp2_with fail
  go_loop [3, 4] (fun n i => ∃ k m : Nat, k ≤ 8 ∧ i = .int .i64 (k : Int) ∧ n = .int .i64 (m : Int) ∧ m < 4611686018427387904 ∧ Hid (m = valN (l.take k))) (fun _ i => 8 - (intOf i).toNat)
  case atStart => exact ⟨0, 0, Nat.zero_le _, rfl, rfl, by decide, rfl⟩
  case round =>
    obtain ⟨k, m, hk, rfl, rfl, hm, HM⟩ := hrel
    by_cases h8 : k < 8
    · by_cases hg : 1099511627776 < m
      · have hr : R = -1 := by
          have h1 := valN_mono l k
          have h2 := HM.out
          have h3 := HR.out
          unfold numR at h3
          rw [if_neg (by omega)] at h3
          exact h3.symm
        go_wp2_with fail
        go_ret
        exact ⟨rfl, rfl⟩
      · have hkq : k < q.size := by omega
        obtain ⟨c, hc⟩ : ∃ c : Nat, (q[k]'hkq).toNat = c := ⟨_, rfl⟩
        have hcb : c < 256 := by rw [← hc]; exact (q[k]'hkq).toNat_lt
        have HS : Hid (256 * m + c = valN (l.take (k + 1))) := by
          show _ = _
          rw [valN_take l k (by rw [HLn.out]; exact h8), ← HM.out, ← HQ.out k hkq, hc]
        go_wp2_with fail
        go_round
        case rel => exact ⟨k + 1, 256 * m + c, by omega, by go_num, by go_num, by omega, HS⟩
        case measure => simp [intOf]; omega
    · obtain rfl : k = 8 := by omega
      have e : l.take 8 = l := List.take_of_length_le (by rw [HLn.out]; exact Nat.le_refl _)
      rw [e] at HM
      by_cases hg : 1099511627776 < m
      · have hr : R = -1 := by
          have h2 := HM.out
          have h3 := HR.out
          unfold numR at h3
          rw [if_neg (by omega)] at h3
          exact h3.symm
        go_wp2_with fail
        go_ret
        exact ⟨rfl, rfl⟩
      · have hr : R = (m : Int) := by
          have h2 := HM.out
          have h3 := HR.out
          unfold numR at h3
          rw [if_pos (by omega)] at h3
          rw [← h3, h2]
        go_wp2_with fail
        go_ret
        exact ⟨rfl, rfl⟩
end Go.Proofs.YthlheamnfjjamaaDoor
