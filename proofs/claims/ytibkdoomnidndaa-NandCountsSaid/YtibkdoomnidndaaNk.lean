/- No chip. -/
import Derived.Test.YtibkdoomnidndaaNj
import Derived.DataShut
namespace Go.Proofs.Ytibkdoomnidndaa
open Go.RowKit

set_option maxRecDepth 100000 in
theorem program_nil (b p : Int) (s : ByteArray) (w : World) :
    Calls Try.prog 15 #[.pointer none, .int .i64 b, .int .i64 p, .string s] w fun e w' => e = .returned (.int .i64 1) ∧ w = w' := by
  go_enter Try.func15, Try.ntmps15
  go_wp2_with (go_at_call 38; refine (page_nil _ _ _).mono ?_; rintro e w' ⟨rfl, rfl⟩)
  go_ret
  exact ⟨rfl, rfl⟩
set_option maxRecDepth 100000 in
theorem read_nil (b p : Int) (w : World) :
    Calls Try.prog 17 #[.pointer none, .int .i64 b, .int .i64 p] w fun e w' => e = .returned (.tuple #[.string ⟨#[]⟩, .int .i64 1]) ∧ w = w' := by
  go_enter Try.func17, Try.ntmps17
  go_wp2_with (go_at_call 38; refine (page_nil _ _ _).mono ?_; rintro e w' ⟨rfl, rfl⟩)
  go_ret2
  exact ⟨rfl, rfl⟩
set_option maxRecDepth 100000 in
theorem erase_nil (b : Int) (w : World) :
    Calls Try.prog 13 #[.pointer none, .int .i64 b] w fun e w' => e = .returned (.int .i64 1) ∧ w = w' := by
  go_enter Try.func13, Try.ntmps13
  go_wp2_with (go_at_call 31; refine (block_nil _ _).mono ?_; rintro e w' ⟨rfl, rfl⟩)
  go_ret
  exact ⟨rfl, rfl⟩
set_option maxRecDepth 100000 in
theorem spoil_nil (b p : Int) (w : World) :
    Calls Try.prog 19 #[.pointer none, .int .i64 b, .int .i64 p] w fun e w' => e = .returned (.int .i64 1) ∧ w = w' := by
  go_enter Try.func19, Try.ntmps19
  go_wp2_with (go_at_call 38; refine (page_nil _ _ _).mono ?_; rintro e w' ⟨rfl, rfl⟩)
  go_ret
  exact ⟨rfl, rfl⟩
set_option maxRecDepth 100000 in
theorem wear_nil (b : Int) (w : World) :
    Calls Try.prog 21 #[.pointer none, .int .i64 b] w fun e w' => e = .returned (.int .i64 1) ∧ w = w' := by
  go_enter Try.func21, Try.ntmps21
  go_wp2_with (go_at_call 31; refine (block_nil _ _).mono ?_; rintro e w' ⟨rfl, rfl⟩)
  go_ret
  exact ⟨rfl, rfl⟩
set_option maxRecDepth 100000 in
theorem off_nil  (w : World) :
    Calls Try.prog 26 #[.pointer none] w fun e w' => e = .returned (.bool false) ∧ w = w' := by
  go_enter Try.func26, Try.ntmps26
  go_wp2
  go_ret
  exact ⟨rfl, rfl⟩
set_option maxRecDepth 100000 in
theorem changes_nil  (w : World) :
    Calls Try.prog 27 #[.pointer none] w fun e w' => e = .returned (.int .i64 0) ∧ w = w' := by
  go_enter Try.func27, Try.ntmps27
  go_wp2
  go_ret
  exact ⟨rfl, rfl⟩
set_option maxRecDepth 100000 in
theorem counts_nil (b : Int) (w : World) :
    Calls Try.prog 28 #[.pointer none, .int .i64 b] w fun e w' => e = .returned (.tuple #[.int .i64 0, .int .i64 0]) ∧ w = w' := by
  go_enter Try.func28, Try.ntmps28
  go_wp2_with (go_at_call 31; refine (block_nil _ _).mono ?_; rintro e w' ⟨rfl, rfl⟩)
  go_ret2
  exact ⟨rfl, rfl⟩
set_option maxRecDepth 100000 in
theorem noise_nil (a b c : Int) (w : World) :
    Calls Try.prog 25 #[.pointer none, .int .i64 a, .int .i64 b, .int .i64 c] w fun e w' => e = .returned (.tuple #[]) ∧ w = w' := by
  go_enter Try.func25, Try.ntmps25
  go_wp2
  go_end0
  exact ⟨rfl, rfl⟩
set_option maxRecDepth 100000 in
theorem on_nil  (w : World) :
    Calls Try.prog 24 #[.pointer none] w fun e w' => e = .returned (.tuple #[]) ∧ w = w' := by
  go_enter Try.func24, Try.ntmps24
  go_wp2
  go_end0
  exact ⟨rfl, rfl⟩
set_option maxRecDepth 100000 in
theorem cut_nil (a b : Int) (w : World) :
    Calls Try.prog 23 #[.pointer none, .int .i64 a, .int .i64 b] w fun e w' => e = .returned (.tuple #[]) ∧ w = w' := by
  go_enter Try.func23, Try.ntmps23
  go_wp2
  first | go_end0 | refine bodyPost_ret (results_none rfl _ _ _) rfl ?_
  exact ⟨rfl, rfl⟩
set_option maxRecDepth 100000 in
theorem is_nil (a b c : Int) (w : World) :
    Calls Try.prog 29 #[.pointer none, .int .i64 a, .int .i64 b, .int .i64 c] w fun e w' => e = .returned (.bool false) ∧ w = w' := by
  go_enter Try.func29, Try.ntmps29
  go_wp2
  go_ret
  exact ⟨rfl, rfl⟩

set_option maxRecDepth 100000 in
set_option maxHeartbeats 1600000 in
theorem nandNil_walk (a b : Int) (w : World) (_wa : (Lit.int .i64 a).wf = true) (_wb : (Lit.int .i64 b).wf = true) :
    Calls Try.prog 7 #[.int .i64 a, .int .i64 b] w fun e w' => e = .returned (.bool true) ∧ Below w.heap.size w w' := by
  go_enter Try.func7, Try.ntmps7
  go_wp2_with (first | (go_at_call 10; refine (speaks_any _).mono ?_; rintro e w1 ⟨rfl, u1⟩; have U1 := Lib.hid u1; clear u1) | (go_at_call 25; refine (noise_nil _ _ _ _).mono ?_; rintro e w' ⟨rfl, rfl⟩) | (go_at_call 23; refine (cut_nil _ _ _).mono ?_; rintro e w' ⟨rfl, rfl⟩) | (go_at_call 24; refine (on_nil _).mono ?_; rintro e w' ⟨rfl, rfl⟩) | (go_at_call 17; refine (read_nil _ _ _).mono ?_; rintro e w' ⟨rfl, rfl⟩) | (go_at_call 28; refine (counts_nil _ _).mono ?_; rintro e w' ⟨rfl, rfl⟩) | (go_at_call 13; refine (erase_nil _ _).mono ?_; rintro e w' ⟨rfl, rfl⟩) | (go_at_call 15; refine (program_nil _ _ _ _).mono ?_; rintro e w' ⟨rfl, rfl⟩) | (go_at_call 19; refine (spoil_nil _ _ _).mono ?_; rintro e w' ⟨rfl, rfl⟩) | (go_at_call 21; refine (wear_nil _ _).mono ?_; rintro e w' ⟨rfl, rfl⟩) | (go_at_call 26; refine (off_nil _).mono ?_; rintro e w' ⟨rfl, rfl⟩) | (go_at_call 27; refine (changes_nil _).mono ?_; rintro e w' ⟨rfl, rfl⟩))
  go_ret
  exact ⟨rfl, U1.out.below (fun _ _ h => h)⟩
theorem pair_lo (m : Nat) (w : World) (hp : Hid (m + 2 ≤ 9223372036854775807)) (h : m % 4 < 2) :
    Calls Try.prog 30 #[.int .i64 (m : Int)] w fun e w' => e = .returned (.tuple #[.int .i64 ((m : Int) + 2), .bool false]) ∧ w = w' :=
  pair_low m w (Lib.hid (by have := hp.out; omega)) h
theorem pair_hi (m : Nat) (w : World) (hp : Hid (m + 2 ≤ 9223372036854775807)) (h : m % 4 < 2) :
    Calls Try.prog 30 #[.int .i64 ((m : Int) + 2)] w fun e w' => e = .returned (.tuple #[.int .i64 (m : Int), .bool true]) ∧ w = w' :=
  pair_up (m + 2) w hp (by omega)
set_option maxRecDepth 100000 in
set_option maxHeartbeats 1600000 in
theorem pairs_neg (p : Int) (w : World) (hneg : p < 0) :
    Calls Try.prog 4 #[.int .i64 p] w fun e w' => e = .returned (.bool true) ∧ Below w.heap.size w w' := by
  go_enter Try.func4, Try.ntmps4
  go_wp2_with (first | (go_at_call 10; refine (speaks_any _).mono ?_; rintro e w1 ⟨rfl, u1⟩; have U1 := Lib.hid u1; clear u1) | (go_at_call 30; refine (pair_neg p _ hneg).mono ?_; rintro e w' ⟨rfl, rfl⟩))
  go_ret
  exact ⟨rfl, U1.out.below (fun _ _ h => h)⟩
set_option maxRecDepth 100000 in
set_option maxHeartbeats 1600000 in
theorem pairs_lo (m : Nat) (w : World) (hp : Hid (m + 2 ≤ 9223372036854775807)) (h : m % 4 < 2) :
    Calls Try.prog 4 #[.int .i64 (m : Int)] w fun e w' => e = .returned (.bool true) ∧ Below w.heap.size w w' := by
  have HL := Lib.hid h
  have q1 : (wrap64 (((m : Int) + 2).tdiv 4) == wrap64 ((m : Int) / 4)) = true := by rw [Int.tdiv_eq_ediv_of_nonneg (by omega)]; exact beq_iff_eq.2 (congrArg wrap64 (by omega))
  have q2 : decide ((m : Int) + 2 < (m : Int)) = false := decide_eq_false (by omega)
  have q3 : ((m : Int) + 2 - (m : Int) == 2) = true := beq_iff_eq.2 (by omega)
  have q4 : decide ((m : Int) < 0) = false := decide_eq_false (by omega)
  clear h
  by_cases hbig : 1152921504606846976 < m
  · have hd : decide (1152921504606846976 < (m : Int)) = true := decide_eq_true (by omega)
    clear hbig
    go_enter Try.func4, Try.ntmps4
    go_wp2_with (first | (go_at_call 10; refine (speaks_any _).mono ?_; rintro e w1 ⟨rfl, u1⟩; have U1 := Lib.hid u1; clear u1) | (go_at_call 30; refine (pair_lo m _ hp HL.out).mono ?_; rintro e w' ⟨rfl, rfl⟩))
    go_ret
    exact ⟨rfl, U1.out.below (fun _ _ h => h)⟩
  · have hd : decide (1152921504606846976 < (m : Int)) = false := decide_eq_false (by omega)
    clear hbig
    go_enter Try.func4, Try.ntmps4
    go_wp2_with (first | (go_at_call 10; refine (speaks_any _).mono ?_; rintro e w1 ⟨rfl, u1⟩; have U1 := Lib.hid u1; clear u1) | (go_at_call 30; ((with_reducible refine (pair_lo m _ hp HL.out).mono ?_); rintro e w' ⟨rfl, rfl⟩)) | (go_at_call 30; ((with_reducible refine (pair_hi m _ hp HL.out).mono ?_); rintro e w' ⟨rfl, rfl⟩)))
    go_ret
    exact ⟨rfl, U1.out.below (fun _ _ h => h)⟩
set_option maxRecDepth 100000 in
set_option maxHeartbeats 1600000 in
theorem pairs_hi (m : Nat) (w : World) (hp : Hid (m + 2 ≤ 9223372036854775807)) (h : m % 4 < 2) :
    Calls Try.prog 4 #[.int .i64 ((m : Int) + 2)] w fun e w' => e = .returned (.bool true) ∧ Below w.heap.size w w' := by
  have HL := Lib.hid h
  have q1 : (wrap64 ((m : Int) / 4) == wrap64 (((m : Int) + 2).tdiv 4)) = true := by rw [Int.tdiv_eq_ediv_of_nonneg (by omega)]; exact beq_iff_eq.2 (congrArg wrap64 (by omega))
  have q2 : decide ((m : Int) < (m : Int) + 2) = true := decide_eq_true (by omega)
  have q3 : ((m : Int) - ((m : Int) + 2) == 2) = false := beq_eq_false_iff_ne.2 (by omega)
  have q5 : ((m : Int) + 2 - (m : Int) == 2) = true := beq_iff_eq.2 (by omega)
  have q4 : decide ((m : Int) + 2 < 0) = false := decide_eq_false (by omega)
  clear h
  by_cases hbig : 1152921504606846976 < m + 2
  · have hd : decide (1152921504606846976 < (m : Int) + 2) = true := decide_eq_true (by omega)
    clear hbig
    go_enter Try.func4, Try.ntmps4
    go_wp2_with (first | (go_at_call 10; refine (speaks_any _).mono ?_; rintro e w1 ⟨rfl, u1⟩; have U1 := Lib.hid u1; clear u1) | (go_at_call 30; refine (pair_hi m _ hp HL.out).mono ?_; rintro e w' ⟨rfl, rfl⟩))
    go_ret
    exact ⟨rfl, U1.out.below (fun _ _ h => h)⟩
  · have hd : decide (1152921504606846976 < (m : Int) + 2) = false := decide_eq_false (by omega)
    clear hbig
    go_enter Try.func4, Try.ntmps4
    go_wp2_with (first | (go_at_call 10; refine (speaks_any _).mono ?_; rintro e w1 ⟨rfl, u1⟩; have U1 := Lib.hid u1; clear u1) | (go_at_call 30; ((with_reducible refine (pair_hi m _ hp HL.out).mono ?_); rintro e w' ⟨rfl, rfl⟩)) | (go_at_call 30; ((with_reducible refine (pair_lo m _ hp HL.out).mono ?_); rintro e w' ⟨rfl, rfl⟩)))
    go_ret
    exact ⟨rfl, U1.out.below (fun _ _ h => h)⟩
theorem nandPairs_walk (p : Int) (w : World) (wp : (Lit.int .i64 p).wf = true) :
    Calls Try.prog 4 #[.int .i64 p] w fun e w' => e = .returned (.bool true) ∧ Below w.heap.size w w' := by
  have hw : p ≤ 9223372036854775807 := ((Lit.wf_int_iff .i64 p).1 wp).2
  by_cases hneg : p < 0
  · exact pairs_neg p w hneg
  · by_cases hl : p % 4 < 2
    · obtain ⟨n, rfl⟩ : ∃ n : Nat, p = (n : Int) := ⟨p.toNat, by omega⟩
      exact pairs_lo n w (Lib.hid (by omega)) (by omega)
    · obtain ⟨n, rfl⟩ : ∃ n : Nat, p = (n : Int) + 2 := ⟨(p - 2).toNat, by omega⟩
      exact pairs_hi n w (Lib.hid (by omega)) (by omega)
end Go.Proofs.Ytibkdoomnidndaa
