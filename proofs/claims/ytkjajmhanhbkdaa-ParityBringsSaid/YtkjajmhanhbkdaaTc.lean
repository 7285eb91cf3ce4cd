/- The plan of a block, bad numbers too; the document's plan; the members of a group. -/
import Derived.Test.YtkjajmhanhbkdaaTb
namespace Go.Proofs.Ytkjajmhanhbkdaa
open Go.RowKit

def okX (x : Int) : Bool := decide (4 ≤ x) && decide (x ≤ 64) && (x % 4 == 0)
def DL (x : Int) (s : Bool) : List Int := if okX x = true then dl s (x.toNat - 3) else []
def PL (x : Int) (s : Bool) : List Int := if okX x = true then parL s x.toNat else []
theorem okX_yes {x : Int} (h : okX x = true) : ∃ n : Nat, x = n ∧ 4 ≤ n ∧ n ≤ 64 ∧ n % 4 = 0 := by
  unfold okX at h
  simp only [Bool.and_eq_true, decide_eq_true_eq, beq_iff_eq] at h
  exact ⟨x.toNat, by omega, by omega, by omega, by omega⟩
theorem okX_of (n : Nat) (h1 : 4 ≤ n) (h2 : n ≤ 64) (h3 : n % 4 = 0) : okX (n : Int) = true := by
  unfold okX
  simp only [Bool.and_eq_true, decide_eq_true_eq, beq_iff_eq]
  omega
theorem okX_no {x : Int} (h : okX x = false) : x < 4 ∨ (4 ≤ x ∧ 64 < x) ∨ (4 ≤ x ∧ x ≤ 64 ∧ x % 4 ≠ 0) := by
  unfold okX at h
  by_cases h1 : x < 4
  · exact .inl h1
  · by_cases h2 : 64 < x
    · exact .inr (.inl ⟨by omega, h2⟩)
    · refine .inr (.inr ⟨by omega, by omega, fun e => ?_⟩)
      rw [decide_eq_true (by omega), decide_eq_true (by omega), e] at h
      cases h
set_option maxRecDepth 100000 in
set_option maxHeartbeats 1600000 in
theorem of_bad (x : Int) (s : Bool) (w : World) (h : x < 4 ∨ (4 ≤ x ∧ 64 < x) ∨ (4 ≤ x ∧ x ≤ 64 ∧ x % 4 ≠ 0)) :
    Calls Try.prog 11 #[.int .i64 x, .bool s] w fun e w' =>
      e = .returned (.tuple #[.agg #[.slice none 0 0, .slice none 0 0], .bool false]) ∧ Upd noBlock w w' := by
  have HF := Lib.hid (heap_alloc_new w (.cells #[.slice none 0 0, .slice none 0 0] 25))
  have HU := Lib.hid ((Upd.refl noBlock w).alloc (.cells #[.slice none 0 0, .slice none 0 0] 25))
  rcases h with h | ⟨h1, h2⟩ | ⟨h1, h2, h3⟩
  · go_enter Try.func11, Try.ntmps11
    go_wp2
    exact bodyPost_ret_by (ret_plan _ w.heap.size _ _ false _ HF.out rfl rfl) rfl ⟨rfl, HU.out⟩
  · go_enter Try.func11, Try.ntmps11
    go_wp2
    exact bodyPost_ret_by (ret_plan _ w.heap.size _ _ false _ HF.out rfl rfl) rfl ⟨rfl, HU.out⟩
  · have t3 : (x % 4 != 0) = true := by rw [bne_iff_ne]; omega
    go_enter Try.func11, Try.ntmps11
    go_wp2
    exact bodyPost_ret_by (ret_plan _ w.heap.size _ _ false _ HF.out rfl rfl) rfl ⟨rfl, HU.out⟩
theorem of_any (x : Int) (s : Bool) (w : World) :
    Calls Try.prog 11 #[.int .i64 x, .bool s] w fun e w' =>
      ∃ v1 v2, e = .returned (.tuple #[.agg #[v1, v2], .bool (okX x)]) ∧ OwnV w' w.heap.size v1 (DL x s) ∧ OwnV w' w.heap.size v2 (PL x s) ∧ Upd noBlock w w' := by
  unfold DL PL
  cases h : okX x
  · simp only [Bool.false_eq_true, if_false]
    refine (of_bad x s w (okX_no h)).mono fun e w' ⟨he, hu⟩ => ⟨_, _, he, OwnV.nil _ _, OwnV.nil _ _, hu⟩
  · simp only [if_true]
    obtain ⟨n, rfl, h1, h2, h3⟩ := okX_yes h
    exact of_in n s w h1 h2 h3

/-! the document's -/
/-- the last lower page below k -/
def lo : Nat → Int
  | 0 => -1
  | k + 1 => if k % 4 < 2 then (k : Int) else lo k
theorem lo_end (n : Nat) (h1 : 4 ≤ n) (h3 : n % 4 = 0) : lo n = (n : Int) - 3 := by
  obtain ⟨m, rfl⟩ : ∃ m, n = m + 4 := ⟨n - 4, by omega⟩
  show (if (m + 3) % 4 < 2 then _ else if (m + 2) % 4 < 2 then _ else if (m + 1) % 4 < 2 then ((m + 1 : Nat) : Int) else _) = _
  rw [if_neg (by omega), if_neg (by omega), if_pos (by omega)]
  omega
theorem lo_yes {k : Nat} (h : k % 4 < 2) : lo (k + 1) = (k : Int) := if_pos h
theorem lo_no {k : Nat} (h : ¬ k % 4 < 2) : lo (k + 1) = lo k := if_neg h

set_option maxRecDepth 100000 in
set_option maxHeartbeats 1600000 in
theorem ref_in (n : Nat) (s : Bool) (w : World) (h1 : 4 ≤ n) (h2 : n ≤ 64) (h3 : n % 4 = 0) :
    Calls Try.prog 12 #[.int .i64 (n : Int), .bool s] w fun e w' =>
      ∃ v1 v2, e = .returned (.tuple #[v1, v2, .bool true]) ∧ OwnV w' w.heap.size v1 (dl s (n - 3)) ∧ OwnV w' w.heap.size v2 (parL s n) ∧ Upd noBlock w w' := by
  obtain ⟨i0, hi0, hz0, hz1, hz2⟩ := intParts7
  have t3 : ((n : Int) % 4 != 0) = false := by rw [bne_eq_false_iff_eq]; omega
  obtain ⟨m, hm⟩ : ∃ m, m = n - 3 := ⟨_, rfl⟩
  have hm64 : m ≤ 61 := by omega
  have HLO := Lib.hid (lo_end n h1 h3)
  have HE : Hid ((n : Int) - 3 = (m : Int)) := by show _ = _; omega
  rw [← hm]
  clear hm h3
  go_enter Try.func12, Try.ntmps12
  go_wp2
  go_loopw [7, 9] (fun l i wr => ∃ k : Nat, k ≤ n ∧ i = .int .i64 (k : Int) ∧ Hid (l = .int .i64 (lo k)) ∧ Hid (w = wr)) (fun _ i _ => n - (intOf i).toNat)
  case atStart => exact ⟨0, Nat.zero_le _, rfl, rfl, rfl⟩
  case round =>
    obtain ⟨k, hk, rfl, HL, HW⟩ := hrel
    obtain rfl := HW.out
    by_cases h0 : k < n
    · by_cases hl : k % 4 < 2
      · have HN := Lib.hid (lo_yes hl)
        have HD := Lib.hid (decide_eq_true hl)
        clear hl
        go_wp2_with (go_at_call 14; refine (lower_any k _).mono ?_; rintro e w' ⟨rfl, rfl⟩; rw [HD.out])
        go_roundw
        case rel => exact ⟨k + 1, by omega, by go_num, by rw [HN.out]; rfl, (by first | exact rfl | exact trivial)⟩
        case measure => simp [intOf]; omega
      · have HN := Lib.hid (lo_no hl)
        have HD := Lib.hid (decide_eq_false hl)
        clear hl
        go_wp2_with (go_at_call 14; refine (lower_any k _).mono ?_; rintro e w' ⟨rfl, rfl⟩; rw [HD.out])
        go_roundw
        case rel => exact ⟨k + 1, by omega, by go_num, by rw [HN.out]; exact HL.out, (by first | exact rfl | exact trivial)⟩
        case measure => simp [intOf]; omega
    · obtain rfl : k = n := by omega
      have hl := HL.out
      rw [HLO.out, HE.out] at hl
      subst hl
      clear HL HW HLO
      go_wp2
      go_loopw [10, 11] (fun v i wr => ∃ j : Nat, j ≤ k ∧ i = .int .i64 (j : Int) ∧ Hid (OwnV wr w.heap.size v (dl s (min j m))) ∧ Hid (Upd noBlock w wr)) (fun _ i _ => k - (intOf i).toNat)
      case atStart => exact ⟨0, Nat.zero_le _, rfl, by rw [Nat.zero_min]; exact OwnV.nil _ _, Upd.refl _ _⟩
      case round =>
        obtain ⟨j, hj, rfl, HO, HU⟩ := hrel
        by_cases j0 : j < k
        · by_cases jm : j < m
          · rw [Nat.min_eq_left (by omega)] at HO
            have HL : Hid ((dl s j).length ≤ 61) := by have := dl_len s j; show _ ≤ 61; omega
            have HO2 := Lib.hid (HO.out.grow ((Upd.refl noBlock wr).alloc (.cells #[.int .i64 (j : Int)] 3)))
            have HU2 := Lib.hid (HU.out.alloc (.cells #[.int .i64 (j : Int)] 3))
            have HI := Lib.hid (ints_new wr (j : Int))
            have HMN : Hid (min (j + 1) m = j + 1) := Nat.min_eq_left (by omega)
            have hbase := HU.out.size
            have hdm : decide ((j : Int) < (m : Int)) = true := decide_eq_true (by omega)
            cases hs : isData s j
            · obtain ⟨rfl, hg⟩ : s = true ∧ ¬ j % 4 < 2 := by
                cases s <;> simp [isData] at hs
                exact ⟨rfl, by omega⟩
              have HD := Lib.hid (decide_eq_false hg)
              have HN := Lib.hid (dl_no hs)
              clear hs hg HO2 HU2 HI
              go_wp2_with (go_at_call 14; refine (lower_any j _).mono ?_; rintro e w' ⟨rfl, rfl⟩; rw [HD.out])
              go_roundw
              case rel => exact ⟨j + 1, by omega, by go_num, by rw [HMN.out, HN.out]; exact HO, HU⟩
              case measure => simp [intOf]; omega
            · have HN := Lib.hid (dl_yes hs)
              have hor : (decide (j % 4 < 2) || !s) = true := by rw [Bool.or_comm]; exact hs
              obtain ⟨d, hd⟩ : ∃ d, d = decide (j % 4 < 2) := ⟨_, rfl⟩
              have HD := Lib.hid hd.symm
              rw [← hd] at hor
              clear hs HU HO hd
              cases d
              · have hsf : s = false := by simpa using hor
                subst hsf
                clear hor
                go_wp2_with (first | (go_at_call 14; refine (lower_any j _).mono ?_; rintro e w' ⟨rfl, rfl⟩; rw [HD.out]) | (at_builtin; refine wpList_append_ints _ rfl (.tmp 49) (.tmp 51) _ rfl w.heap.size 3 i0 _ Try.underlying23 hi0 hz0 hz1 hz2 rfl _ (dl false j).length (vals (dl false j)) rfl HO2.out (wr.heap.size + 1) (some ⟨wr.heap.size, 0, none⟩) 1 1 [(j : Int)] rfl HI.out (by have := HL.out; simp only [maxLen]; omega) (by have := HL.out; omega) (by simp; omega) ?_; intro v3 w3 hown3 hg3 _))
                go_roundw
                case rel => exact ⟨j + 1, by omega, by go_num, by rw [HMN.out, HN.out]; exact OwnV.snoc hown3, HU2.out.grownOwn hg3 (fun i hi => (HO2.out.lt i hi).1)⟩
                case measure => simp [intOf]; omega
              · clear hor
                go_wp2_with (first | (go_at_call 14; refine (lower_any j _).mono ?_; rintro e w' ⟨rfl, rfl⟩; rw [HD.out]) | (at_builtin; refine wpList_append_ints _ rfl (.tmp 49) (.tmp 51) _ rfl w.heap.size 3 i0 _ Try.underlying23 hi0 hz0 hz1 hz2 rfl _ (dl s j).length (vals (dl s j)) rfl HO2.out (wr.heap.size + 1) (some ⟨wr.heap.size, 0, none⟩) 1 1 [(j : Int)] rfl HI.out (by have := HL.out; simp only [maxLen]; omega) (by have := HL.out; omega) (by simp; omega) ?_; intro v3 w3 hown3 hg3 _))
                go_roundw
                case rel => exact ⟨j + 1, by omega, by go_num, by rw [HMN.out, HN.out]; exact OwnV.snoc hown3, HU2.out.grownOwn hg3 (fun i hi => (HO2.out.lt i hi).1)⟩
                case measure => simp [intOf]; omega
          · have HMN : Hid (min (j + 1) m = min j m) := by show _ = _; omega
            have hdm : decide ((j : Int) < (m : Int)) = false := decide_eq_false (by omega)
            go_wp2_with fail
            go_roundw
            case rel => exact ⟨j + 1, by omega, by go_num, by rw [HMN.out]; exact HO, HU⟩
            case measure => simp [intOf]; omega
        · obtain rfl : j = k := by omega
          have HMN : Hid (min j m = m) := by have := HE.out; show _ = _; omega
          rw [HMN.out] at HO
          cases s
          · have H2 : Hid (OwnV (wr.alloc (.cells #[.int .i64 (m : Int), .int .i64 ((j : Int) - 1)] 3)) wr.heap.size (.slice (some ⟨wr.heap.size, 0, none⟩) 2 2) (parL false j)) := by
              unfold parL; rw [if_neg (by decide), HE.out]; exact own_two wr _ _
            have hsz := HU.out.size
            go_wp2_with fail
            go_ret3
            exact ⟨_, _, rfl, HO.out.grow ((Upd.refl noBlock wr).alloc _), H2.out.more hsz, HU.out.alloc _⟩
          · have H2 : Hid (OwnV (wr.alloc (.cells #[.int .i64 (m : Int)] 3)) wr.heap.size (.slice (some ⟨wr.heap.size, 0, none⟩) 1 1) (parL true j)) := by
              unfold parL; rw [if_pos rfl, HE.out]; exact own_one wr _
            have hsz := HU.out.size
            go_wp2_with fail
            go_ret3
            exact ⟨_, _, rfl, HO.out.grow ((Upd.refl noBlock wr).alloc _), H2.out.more hsz, HU.out.alloc _⟩
set_option maxRecDepth 100000 in
set_option maxHeartbeats 1600000 in
theorem ref_bad (x : Int) (s : Bool) (w : World) (h : x < 4 ∨ (4 ≤ x ∧ 64 < x) ∨ (4 ≤ x ∧ x ≤ 64 ∧ x % 4 ≠ 0)) :
    Calls Try.prog 12 #[.int .i64 x, .bool s] w fun e w' =>
      e = .returned (.tuple #[.slice none 0 0, .slice none 0 0, .bool false]) ∧ Upd noBlock w w' := by
  rcases h with h | ⟨h1, h2⟩ | ⟨h1, h2, h3⟩
  · go_enter Try.func12, Try.ntmps12
    go_wp2
    go_ret3
    exact ⟨rfl, Upd.refl _ _⟩
  · go_enter Try.func12, Try.ntmps12
    go_wp2
    go_ret3
    exact ⟨rfl, Upd.refl _ _⟩
  · have t3 : (x % 4 != 0) = true := by rw [bne_iff_ne]; omega
    go_enter Try.func12, Try.ntmps12
    go_wp2
    go_ret3
    exact ⟨rfl, Upd.refl _ _⟩
theorem ref_any (x : Int) (s : Bool) (w : World) :
    Calls Try.prog 12 #[.int .i64 x, .bool s] w fun e w' =>
      ∃ v1 v2, e = .returned (.tuple #[v1, v2, .bool (okX x)]) ∧ OwnV w' w.heap.size v1 (DL x s) ∧ OwnV w' w.heap.size v2 (PL x s) ∧ Upd noBlock w w' := by
  unfold DL PL
  cases h : okX x
  · simp only [Bool.false_eq_true, if_false]
    refine (ref_bad x s w (okX_no h)).mono fun e w' ⟨he, hu⟩ => ⟨_, _, he, OwnV.nil _ _, OwnV.nil _ _, hu⟩
  · simp only [if_true]
    obtain ⟨n, rfl, h1, h2, h3⟩ := okX_yes h
    exact ref_in n s w h1 h2 h3
end Go.Proofs.Ytkjajmhanhbkdaa
