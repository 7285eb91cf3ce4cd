/- What nodes take: blocks, the first keys of an index's pages, an index's pages. -/
import Derived.Test.YtnimgkijodfjkaaKJf
import Derived.IntWalk
namespace Go.Proofs.Ytnimgkijodfjkaa
open Go.RowKit Pm
set_option linter.unusedVariables false

theorem up_div (r x : Nat) (hr : 1 ≤ r) : up r x = x / r + (if 0 < x % r then 1 else 0) := by
  unfold up
  have e := Nat.div_add_mod x r
  have hm := Nat.mod_lt x (show r > 0 by omega)
  by_cases h : 0 < x % r
  · rw [if_pos h]
    rw [show x + r - 1 = r * (x / r) + (x % r + r - 1) by omega, Nat.mul_add_div (by omega), show x % r + r - 1 = (x % r - 1) + r by omega, Nat.add_div_right _ (by omega), Nat.div_eq_of_lt (show x % r - 1 < r by omega)]
  · rw [if_neg h]
    rw [show x + r - 1 = r * (x / r) + (r - 1) by omega, Nat.mul_add_div (by omega), Nat.div_eq_of_lt (show r - 1 < r by omega)]
set_option maxRecDepth 100000 in
theorem blocks_any (j y s : Int) (h : Int) (r x : Nat) (w : World) (h1 : 1 ≤ r) (h2 : r ≤ 62) (hx : x ≤ 2000) :
    Calls Try.prog 28 #[planV j h (r : Int) y s, .int .i64 (x : Int)] w fun e w' => e = .returned (.int .i64 (up r x : Int)) ∧ Upd noBlock w w' := by
  rw [up_div r x h1]
  have hq : x / r ≤ x := Nat.div_le_self x r
  have hm := Nat.mod_lt x (show r > 0 by omega)
  have d1 : (x : Int) / (r : Int) = ((x / r : Nat) : Int) := by push_cast; rfl
  have d2 : (x : Int) % (r : Int) = ((x % r : Nat) : Int) := by push_cast; rfl
  have d3 : (x : Int).tdiv (r : Int) = ((x / r : Nat) : Int) := by rw [Int.tdiv_eq_ediv_of_nonneg (by omega)]; exact d1
  have d4 : (x : Int).tmod (r : Int) = ((x % r : Nat) : Int) := by rw [Int.tmod_eq_emod_of_nonneg (by omega)]; exact d2
  generalize x / r = q at *
  generalize x % r = m at *
  have U0 : Hid (Upd noBlock w (w.alloc (.cells #[.int .i64 j, .int .i64 h, .int .i64 (r : Int), .int .i64 y, .int .i64 s] 25))) := (Upd.refl _ _).alloc _
  unfold planV
  by_cases hc : 0 < m
  · rw [if_pos hc]
    go_enter Try.func28, Try.ntmps28
    go_wp2_with fail
    go_ret
    exact ⟨by first | rfl | go_num, U0.out⟩
  · rw [if_neg hc, Nat.add_zero]
    go_enter Try.func28, Try.ntmps28
    go_wp2_with fail
    go_ret
    exact ⟨rfl, U0.out⟩

def Keys (xs : List Int) : Prop := ∀ x ∈ xs, 1 ≤ x ∧ x ≤ 64
theorem Keys.at {xs : List Int} (h : Keys xs) {k : Nat} (hk : k < xs.length) : 1 ≤ xs.getD k 0 ∧ xs.getD k 0 ≤ 64 := by
  rw [List.getD_eq_getElem?_getD, List.getElem?_eq_getElem hk]
  exact h _ (List.getElem_mem _)
/-- the pages of a level, behind k keys: so many begun, the last holds c keys, h bytes -/
structure Fs (ys : List Int) (k c : Nat) (h : Int) : Prop where
  keys : Keys ys
  z : k = 0 → ys.length = 0 ∧ c = 0
  s : 0 < k → 0 < ys.length ∧ 0 < c
  n : 3 * ys.length + c ≤ k + 3
  cl : c ≤ 255
  hl : 0 ≤ h ∧ h ≤ 2 + 78 * (c : Int)
theorem Fs.len {ys : List Int} {k c : Nat} {h : Int} (f : Fs ys k c h) : ys.length ≤ k + 1 := by have := f.n; omega
theorem Fs.nil : Fs [] 0 0 0 := ⟨fun _ h => (by cases h), fun _ => ⟨rfl, rfl⟩, fun h => absurd h (by omega), (by simp), (by omega), (by omega)⟩
theorem Fs.more {ys : List Int} {k c : Nat} {h x v : Int} (f : Fs ys k c h) (hc : c ≠ 0) (hc2 : c ≠ 255) (hx : 1 ≤ x ∧ x ≤ 64) (hv : 0 ≤ v ∧ v ≤ 12) : Fs ys (k + 1) (c + 1) (h + (2 + x + v)) := by
  obtain ⟨f1, f2, f3, f4, f5, f6⟩ := f
  refine ⟨f1, fun e => (by omega), fun _ => ⟨?_, (by omega)⟩, (by omega), (by omega), (by omega)⟩
  by_cases hk : k = 0
  · exact absurd (f2 hk).2 hc
  · exact (f3 (by omega)).1
theorem Fs.page {ys : List Int} {k c : Nat} {h x v y : Int} (f : Fs ys k c h) (hw : c = 0 ∨ c = 255 ∨ y < h + (2 + x + v)) (hx : 1 ≤ x ∧ x ≤ 64) (hv : 0 ≤ v ∧ v ≤ 12) (hy : 249 ≤ y) : Fs (ys ++ [x]) (k + 1) 1 (2 + (2 + x + v)) := by
  obtain ⟨f1, f2, f3, f4, f5, f6⟩ := f
  refine ⟨fun q hq => ?_, fun e => (by omega), fun _ => ⟨(by simp), (by omega)⟩, ?_, (by omega), (by omega)⟩
  · rcases List.mem_append.1 hq with h | h
    · exact f1 q h
    · have : q = x := by simpa using h
      rw [this]; exact hx
  · rw [List.length_append]
    show 3 * (ys.length + 1) + 1 ≤ k + 1 + 3
    by_cases hk : k = 0
    · have := (f2 hk).1; omega
    · have := (f3 (by omega)).2; omega
set_option maxRecDepth 100000 in
set_option maxHeartbeats 1600000 in
theorem firsts_any (y v : Int) (a : Option Addr) (n cap B : Nat) (xs : List Int) (w : World) (hr : Ints w B a n xs) (hB : B ≤ w.heap.size) (hk : Keys xs) (hn : n ≤ 2000) (hy : 249 ≤ y) (hy2 : y ≤ 2000) (hv : 0 ≤ v ∧ v ≤ 12) :
    Calls Try.prog 37 #[.int .i64 y, .int .i64 v, .slice a n cap] w fun e w' => ∃ u ys, e = .returned u ∧ Pr.OwnV w' w.heap.size u ys ∧ Keys ys ∧ 3 * ys.length ≤ n + 2 ∧ (n = 0 → ys.length = 0) ∧ Upd noBlock w w' := by
  obtain ⟨i0, hi0, hz0, hz1, hz2⟩ := Pr.intParts7
  have HR := Lib.hid hr
  have HBB := Lib.hid hB
  have HL := Lib.hid hr.1
  have HKS := Lib.hid hk
  have HV := Lib.hid hv
  obtain ⟨v1, v2⟩ := hv
  clear hr hB hk
  go_enter Try.func37, Try.ntmps37
  go_wp2_with fail
  go_loopw [7, 8, 9, 15] (fun l hh cc i wr => ∃ (k c : Nat) (h : Int) (ys : List Int), k ≤ n ∧ i = .int .i64 (k : Int) ∧ hh = .int .i64 h ∧ cc = .int .i64 (c : Int) ∧ Hid (Pr.OwnV wr w.heap.size l ys) ∧ Hid (Fs ys k c h) ∧ Hid (Upd noBlock w wr)) (fun _ _ _ i _ => n - (intOf i).toNat)
  case atStart => exact ⟨0, 0, 0, [], Nat.zero_le _, rfl, rfl, rfl, Pr.OwnV.nil _ _, Fs.nil, Upd.refl _ _⟩
  case round =>
    obtain ⟨k, c, h, ys, hk, rfl, rfl, rfl, HO, HF, HU⟩ := hrel
    by_cases h0 : k < n
    · obtain ⟨g, off, hag, hg, hc⟩ := (HR.out.grow HU.out HBB.out).cell (by omega)
      subst hag
      have c1 := hc k h0
      have HX := Lib.hid (HKS.out.at (show k < xs.length by rw [HL.out]; exact h0))
      obtain ⟨x, hx⟩ : ∃ x, xs.getD k 0 = x := ⟨_, rfl⟩
      rw [hx] at HX c1
      obtain ⟨x1, x2⟩ := HX.out
      have hc255 := HF.out.cl
      have hh1 := HF.out.hl
      have hle := HF.out.len
      have hbase := HU.out.size
      have HO2 := Lib.hid (HO.out.grow ((Upd.refl noBlock wr).alloc (.cells #[.int .i64 x] 3)))
      have HU2 := Lib.hid (HU.out.alloc (.cells #[.int .i64 x] 3))
      have HI := Lib.hid (Pr.ints_new wr x)
      have HLEN : Hid (ys.length ≤ 2001) := by show _ ≤ 2001; omega
      clear hc hx hg hle
      by_cases q : c ≠ 0 ∧ c ≠ 255 ∧ h + (2 + x + v) ≤ y
      · obtain ⟨q1, q2, q3⟩ := q
        have HN := Lib.hid (HF.out.more q1 q2 HX.out HV.out)
        have q4 : ((c : Int) == 0) = false := by rw [beq_eq_false_iff_ne]; omega
        have q5 : ((c : Int) == 255) = false := by rw [beq_eq_false_iff_ne]; omega
        have q6 : ¬ (y < h + (2 + x + v)) := by omega
        clear HO2 HU2 HI q1 q2
        go_wp2_with fail
        go_roundw
        case rel => exact ⟨k + 1, c + 1, h + (2 + x + v), ys, by omega, by go_num, by first | rfl | go_num, by first | rfl | go_num, HO, HN, HU⟩
        case measure => simp [intOf] <;> omega
      · have HW : Hid (c = 0 ∨ c = 255 ∨ y < h + (2 + x + v)) := by show _ ∨ _ ∨ _; omega
        have HN := Lib.hid (HF.out.page HW.out HX.out HV.out hy)
        clear q
        by_cases q1 : c = 0
        · subst q1
          clear hc255 hh1 HW HF
          go_wp2_with (at_builtin; refine wpList_append_ints _ rfl (.tmp 36) (.tmp 38) _ rfl w.heap.size 3 i0 _ Try.underlying37 hi0 hz0 hz1 hz2 rfl _ ys.length (vals ys) rfl HO2.out (wr.heap.size + 1) (some ⟨wr.heap.size, 0, none⟩) 1 1 [x] rfl HI.out (by have := HLEN.out; simp only [maxLen]; omega) (by have := HLEN.out; omega) (by simp; omega) ?_; intro v3 w3 hown3 hg3 _)
          go_roundw
          case rel => exact ⟨k + 1, 1, 2 + (2 + x + v), ys ++ [x], by omega, by go_num, by first | rfl | go_num, by first | rfl | go_num, Pr.OwnV.snoc hown3, HN, HU2.out.grownOwn hg3 (fun i hi => (HO2.out.lt i hi).1)⟩
          case measure => simp [intOf] <;> omega
        · by_cases q2 : c = 255
          · subst q2
            clear hc255 hh1 HW HF q1
            go_wp2_with (at_builtin; refine wpList_append_ints _ rfl (.tmp 36) (.tmp 38) _ rfl w.heap.size 3 i0 _ Try.underlying37 hi0 hz0 hz1 hz2 rfl _ ys.length (vals ys) rfl HO2.out (wr.heap.size + 1) (some ⟨wr.heap.size, 0, none⟩) 1 1 [x] rfl HI.out (by have := HLEN.out; simp only [maxLen]; omega) (by have := HLEN.out; omega) (by simp; omega) ?_; intro v3 w3 hown3 hg3 _)
            go_roundw
            case rel => exact ⟨k + 1, 1, 2 + (2 + x + v), ys ++ [x], by omega, by go_num, by first | rfl | go_num, by first | rfl | go_num, Pr.OwnV.snoc hown3, HN, HU2.out.grownOwn hg3 (fun i hi => (HO2.out.lt i hi).1)⟩
            case measure => simp [intOf] <;> omega
          · have q3 : y < h + (2 + x + v) := by have := HW.out; omega
            have q4 : ((c : Int) == 0) = false := by rw [beq_eq_false_iff_ne]; omega
            have q5 : ((c : Int) == 255) = false := by rw [beq_eq_false_iff_ne]; omega
            clear q1 q2 HW HF
            go_wp2_with (at_builtin; refine wpList_append_ints _ rfl (.tmp 36) (.tmp 38) _ rfl w.heap.size 3 i0 _ Try.underlying37 hi0 hz0 hz1 hz2 rfl _ ys.length (vals ys) rfl HO2.out (wr.heap.size + 1) (some ⟨wr.heap.size, 0, none⟩) 1 1 [x] rfl HI.out (by have := HLEN.out; simp only [maxLen]; omega) (by have := HLEN.out; omega) (by simp; omega) ?_; intro v3 w3 hown3 hg3 _)
            go_roundw
            case rel => exact ⟨k + 1, 1, 2 + (2 + x + v), ys ++ [x], by omega, by go_num, by first | rfl | go_num, by first | rfl | go_num, Pr.OwnV.snoc hown3, HN, HU2.out.grownOwn hg3 (fun i hi => (HO2.out.lt i hi).1)⟩
            case measure => simp [intOf] <;> omega
    · obtain rfl : k = n := by omega
      have HE : Hid (Keys ys ∧ 3 * ys.length ≤ k + 2 ∧ (k = 0 → ys.length = 0)) := by
        refine ⟨HF.out.keys, ?_, fun e => (HF.out.z e).1⟩
        by_cases e : k = 0
        · have := (HF.out.z e).1; omega
        · have := HF.out.n; have := (HF.out.s (by omega)).2; omega
      go_wp2_with fail
      go_ret
      exact ⟨_, ys, rfl, HO.out, HE.out.1, HE.out.2.1, HE.out.2.2, HU.out⟩
end Go.Proofs.Ytnimgkijodfjkaa
