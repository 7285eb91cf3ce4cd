/- The laws of layer 1, walked: logarithms, rules, squares. -/
import Derived.Test.YtfahibnbfinibaaGfy
namespace Go.Proofs.Ytfahibnbfinibaa
open Go.RowKit Gfm

theorem xor_i64 (b c : Int) : bits .xor .i64 b c = IntKind.i64.wrap ((BitVec.ofInt 64 b ^^^ BitVec.ofInt 64 c).toNat : Nat) := rfl
theorem low_wrap (x : Nat) : low (IntKind.i64.wrap (x : Int)) = x % 8192 := by
  unfold low
  rw [IntKind.wrap_i64]
  omega
theorem toNat64 (b : Int) : (BitVec.ofInt 64 b).toNat % 8192 = low b := by
  rw [BitVec.toNat_ofInt]
  unfold low
  omega
theorem low_xor (b c : Int) : low (bits .xor .i64 b c) = low b ^^^ low c := by
  rw [xor_i64, low_wrap, BitVec.toNat_xor, ← toNat64 b, ← toNat64 c]
  generalize (BitVec.ofInt 64 b).toNat = x
  generalize (BitVec.ofInt 64 c).toNat = y
  exact Nat.xor_mod_two_pow (n := 13)
theorem low_lit (a : Nat) (h : a < 8192) : low (a : Int) = a := low_nat a h
theorem pw_trn_lg (a : Nat) (h0 : a ≠ 0) (h : a < 8192) : pw (trn ((lg a : Nat) : Int)) = a := by
  rw [pw_trn, pw_lg a (by omega) h]
theorem pw_trn_add (a b : Nat) (ha : a ≠ 0) (hb : b ≠ 0) (h : a < 8192) (h' : b < 8192) : pw (trn (((lg a : Nat) : Int) + ((lg b : Nat) : Int))) = mul a b := by
  rw [← Int.natCast_add, pw_trn, prod_eq a b (by omega) (by omega) h h']
theorem mul_inv (a : Nat) (h0 : a ≠ 0) (h : a < 8192) : mul a (invN a) = 1 := by
  have hl := lg_lt a
  have e : mul a (invN a) = mul (pw (lg a)) (pw (8191 - lg a)) := by rw [pw_lg a (by omega) h]; unfold invN; rw [if_neg h0]
  have e2 : lg a + (8191 - lg a) = 8191 := by omega
  rw [e, mul_pw, e2, pw_order]
theorem mul_mul_inv (a b : Nat) (h0 : a ≠ 0) (h : a < 8192) (hb : b < 8192) : mul (mul a b) (invN a) = b := by
  rw [mul_comm a b h hb, mul_assoc b a _ hb h (invN_lt a), mul_inv a h0 h, mul_one]
theorem sq_xor (a b : Nat) (ha : a < 8192) (hb : b < 8192) : mul (a ^^^ b) (a ^^^ b) = mul a a ^^^ mul b b := by
  rw [mul_xor _ _ _ (xor_lt a b ha hb), xor_mul a b a ha hb, xor_mul a b b ha hb, mul_comm b a hb ha]
  rw [Nat.xor_assoc, ← Nat.xor_assoc (mul a b), Nat.xor_self, Nat.zero_xor]
theorem one_mul (a : Nat) (ha : a < 8192) : mul 1 a = a := by rw [mul_comm 1 a (by omega) ha, mul_one]
theorem powN_two (a : Nat) (ha : a < 8192) : powN a 2 = mul a a := by
  rw [powN_pos a 2 (by omega) ha]
  show mul (mul 1 a) a = mul a a
  rw [one_mul a ha]
theorem powN_all (a : Nat) (ha : a < 8192) : powN a 8192 = a := by
  unfold powN
  rw [if_neg (by omega)]
  by_cases h0 : a = 0
  · rw [if_pos h0, h0]
  · have e : trn 8192 = 1 := by decide
    rw [if_neg h0, e, ← Int.natCast_mul, Nat.mul_one, pw_trn_lg a h0 ha]

set_option maxRecDepth 100000 in
set_option maxHeartbeats 1600000 in
theorem gfLogs_walk (a b : Int) (w : World) (_wa : (Lit.int .i64 a).wf = true) (_wb : (Lit.int .i64 b).wf = true) :
    Calls Try.prog 5 #[.int .i64 a, .int .i64 b] w fun e w' => e = .returned (.bool true) ∧ Below w.heap.size w w' := by
  have hnot : ∀ (x : Bool) (w : World), (Op.unary .not (.bool x)).run Try.prog w = .ok (.bool (!x)) w := fun _ _ => rfl
  have m1 : bits .and .i64 a 8191 = ((low a : Nat) : Int) := by rw [i64_8191, low_eq]
  have m2 : bits .and .i64 b 8191 = ((low b : Nat) : Int) := by rw [i64_8191, low_eq]
  obtain ⟨x, HX⟩ : ∃ x, Hid (lg (low a) = x) := ⟨_, rfl⟩
  obtain ⟨y, HY⟩ : ∃ y, Hid (lg (low b) = y) := ⟨_, rfl⟩
  have ga : x < 8191 := by rw [← HX.out]; exact lg_lt _
  have gb : y < 8191 := by rw [← HY.out]; exact lg_lt _
  by_cases ha : low a = 0
  · by_cases hb : low b = 0
    · have Ha := Lib.hid ha
      have Ta : (((low a : Nat) : Int) != 0) = false := by rw [ha]; rfl
      have Hb := Lib.hid hb
      have Tb : (((low b : Nat) : Int) != 0) = false := by rw [hb]; rfl
      clear ha hb ga gb
      go_enter Try.func5, Try.ntmps5
      go_wp2_with fail
      refine (speaks_any _).mono ?_
      rintro e w1 ⟨rfl, HU⟩
      have HF0 := Lib.hid (fresh_new w1)
      have HU0 := Lib.hid (HU.alloc (.cells #[.int .u32 0, .int .i32 0, .int .u32 0, .slice none 0 0, .slice none 0 0, .int .i64 0] 40))
      have hsz := HU.size
      clear HU
      go_wp2_with fail
      refine (log_no w1.heap.size a _ Ha.out).mono ?_
      rintro e v ⟨rfl, rfl⟩
      go_wp2_with fail
      refine (log_no w1.heap.size b _ Hb.out).mono ?_
      rintro e v ⟨rfl, rfl⟩
      go_wp2_with fail
      go_ret
      exact ⟨rfl, HU0.out.ends⟩
    · have Ha := Lib.hid ha
      have Ta : (((low a : Nat) : Int) != 0) = false := by rw [ha]; rfl
      have Hb := Lib.hid hb
      have Tb : (((low b : Nat) : Int) != 0) = true := by rw [bne_iff_ne]; omega
      clear ha hb ga gb
      go_enter Try.func5, Try.ntmps5
      go_wp2_with fail
      refine (speaks_any _).mono ?_
      rintro e w1 ⟨rfl, HU⟩
      have HF0 := Lib.hid (fresh_new w1)
      have HU0 := Lib.hid (HU.alloc (.cells #[.int .u32 0, .int .i32 0, .int .u32 0, .slice none 0 0, .slice none 0 0, .int .i64 0] 40))
      have hsz := HU.size
      clear HU
      go_wp2_with fail
      refine (log_no w1.heap.size a _ Ha.out).mono ?_
      rintro e v ⟨rfl, rfl⟩
      go_wp2_with fail
      refine (log_yes w1.heap.size 0 b _ HF0.out Hb.out).mono ?_
      rintro e v1 ⟨rfl, R, U⟩
      have HF1 := Lib.hid R.fld
      have HU1 := Lib.hid (HU0.out.new U hsz)
      clear R U HF0 HU0
      rw [HY.out]
      go_wp2_with fail
      go_ret
      exact ⟨rfl, HU1.out.ends⟩
  · by_cases hb : low b = 0
    · have Ha := Lib.hid ha
      have Ta : (((low a : Nat) : Int) != 0) = true := by rw [bne_iff_ne]; omega
      have Hb := Lib.hid hb
      have Tb : (((low b : Nat) : Int) != 0) = false := by rw [hb]; rfl
      have P1 : Hid (pw (trn ((x : Nat) : Int)) = low a) := by rw [← HX.out]; exact pw_trn_lg (low a) ha (low_lt a)
      have T1 : decide ((8190 : Int) < (x : Int)) = false := by simp; omega
      have T2 : decide ((x : Int) < 0) = false := by simp
      clear ha hb ga gb
      go_enter Try.func5, Try.ntmps5
      go_wp2_with fail
      refine (speaks_any _).mono ?_
      rintro e w1 ⟨rfl, HU⟩
      have HF0 := Lib.hid (fresh_new w1)
      have HU0 := Lib.hid (HU.alloc (.cells #[.int .u32 0, .int .i32 0, .int .u32 0, .slice none 0 0, .slice none 0 0, .int .i64 0] 40))
      have hsz := HU.size
      clear HU
      go_wp2_with fail
      refine (log_yes w1.heap.size 0 a _ HF0.out Ha.out).mono ?_
      rintro e v1 ⟨rfl, R, U⟩
      have HF1 := Lib.hid R.fld
      have HU1 := Lib.hid (HU0.out.new U hsz)
      clear R U HF0 HU0
      rw [HX.out]
      go_wp2_with fail
      refine (log_no w1.heap.size b _ Hb.out).mono ?_
      rintro e v ⟨rfl, rfl⟩
      go_wp2_with fail
      refine (exp_any w1.heap.size _ _ _ HF1.out).mono ?_
      rintro e v2 ⟨rfl, R, U⟩
      have HF2 := Lib.hid R.fld
      have HU2 := Lib.hid (HU1.out.new U hsz)
      clear R U HF1 HU1
      rw [P1.out]
      go_wp2_with fail
      go_ret
      exact ⟨rfl, HU2.out.ends⟩
    · have Ha := Lib.hid ha
      have Ta : (((low a : Nat) : Int) != 0) = true := by rw [bne_iff_ne]; omega
      have Hb := Lib.hid hb
      have Tb : (((low b : Nat) : Int) != 0) = true := by rw [bne_iff_ne]; omega
      have P1 : Hid (pw (trn ((x : Nat) : Int)) = low a) := by rw [← HX.out]; exact pw_trn_lg (low a) ha (low_lt a)
      have P2 : Hid (pw (trn (((x : Nat) : Int) + ((y : Nat) : Int))) = mul (low a) (low b)) := by rw [← HX.out, ← HY.out]; exact pw_trn_add (low a) (low b) ha hb (low_lt a) (low_lt b)
      have T1 : decide ((8190 : Int) < (x : Int)) = false := by simp; omega
      have T2 : decide ((x : Int) < 0) = false := by simp
      have T3 : IntKind.i64.wrap ((x : Int) + (y : Int)) = (x : Int) + (y : Int) := IntWalk.i64_in _ (by omega)
      clear ha hb ga gb
      go_enter Try.func5, Try.ntmps5
      go_wp2_with fail
      refine (speaks_any _).mono ?_
      rintro e w1 ⟨rfl, HU⟩
      have HF0 := Lib.hid (fresh_new w1)
      have HU0 := Lib.hid (HU.alloc (.cells #[.int .u32 0, .int .i32 0, .int .u32 0, .slice none 0 0, .slice none 0 0, .int .i64 0] 40))
      have hsz := HU.size
      clear HU
      go_wp2_with fail
      refine (log_yes w1.heap.size 0 a _ HF0.out Ha.out).mono ?_
      rintro e v1 ⟨rfl, R, U⟩
      have HF1 := Lib.hid R.fld
      have HU1 := Lib.hid (HU0.out.new U hsz)
      clear R U HF0 HU0
      rw [HX.out]
      go_wp2_with fail
      refine (log_yes w1.heap.size 0 b _ HF1.out Hb.out).mono ?_
      rintro e v2 ⟨rfl, R, U⟩
      have HF2 := Lib.hid R.fld
      have HU2 := Lib.hid (HU1.out.new U hsz)
      clear R U HF1 HU1
      rw [HY.out]
      go_wp2_with fail
      refine (exp_any w1.heap.size _ _ _ HF2.out).mono ?_
      rintro e v3 ⟨rfl, R, U⟩
      have HF3 := Lib.hid R.fld
      have HU3 := Lib.hid (HU2.out.new U hsz)
      clear R U HF2 HU2
      rw [P1.out]
      go_wp2_with fail
      refine (exp_any w1.heap.size _ _ _ HF3.out).mono ?_
      rintro e v4 ⟨rfl, R, U⟩
      have HF4 := Lib.hid R.fld
      have HU4 := Lib.hid (HU3.out.new U hsz)
      clear R U HF3 HU3
      rw [P2.out]
      go_wp2_with fail
      refine (mul_any w1.heap.size _ a b _ HF4.out (by omega)).mono ?_
      rintro e v5 ⟨rfl, R, U⟩
      have HF5 := Lib.hid R.fld
      have HU5 := Lib.hid (HU4.out.new U hsz)
      clear R U HF4 HU4
      go_wp2_with fail
      go_ret
      exact ⟨rfl, HU5.out.ends⟩

set_option maxRecDepth 100000 in
set_option maxHeartbeats 1600000 in
theorem gfRules_walk (a b c : Int) (w : World) (_wa : (Lit.int .i64 a).wf = true) (_wb : (Lit.int .i64 b).wf = true) (_wc : (Lit.int .i64 c).wf = true) :
    Calls Try.prog 7 #[.int .i64 a, .int .i64 b, .int .i64 c] w fun e w' => e = .returned (.bool true) ∧ Below w.heap.size w w' := by
  have hnot : ∀ (x : Bool) (w : World), (Op.unary .not (.bool x)).run Try.prog w = .ok (.bool (!x)) w := fun _ _ => rfl
  have m1 : bits .and .i64 a 8191 = ((low a : Nat) : Int) := by rw [i64_8191, low_eq]
  have m2 : bits .and .i64 b 8191 = ((low b : Nat) : Int) := by rw [i64_8191, low_eq]
  have la := low_lt a
  have lb := low_lt b
  have lc := low_lt c
  have k1 := mul_lt (low a) (low b) la
  have k2 := mul_lt (low a) (low c) la
  have k3 := mul_lt (low b) (low c) lb
  have x1 : bits .xor .i64 ((mul (low a) (low b) : Nat) : Int) ((mul (low a) (low c) : Nat) : Int) = ((mul (low a) (low b) ^^^ mul (low a) (low c) : Nat) : Int) := i64_xor_nat _ _ (by omega) (by omega)
  have D := Lib.hid ((congrArg (mul (low a)) (low_xor b c)).trans (mul_xor (low a) (low b) (low c) la))
  have A1 := Lib.hid ((congrArg (fun z => mul z (low c)) (low_lit _ k1)).trans (mul_assoc (low a) (low b) (low c) la lb lc))
  have A2 := Lib.hid (congrArg (mul (low a)) (low_lit _ k3))
  have O1 : Hid (mul (low a) (low 1) = low a) := mul_one (low a)
  have O2 : Hid (mul (low a) (low 0) = 0) := mul_zero (low a)
  by_cases ha : low a = 0
  · have Ha := Lib.hid ha
    have Ta : (((low a : Nat) : Int) == 0) = true := by rw [ha]; rfl
    clear ha
    go_enter Try.func7, Try.ntmps7
    go_wp2_with fail
    refine (speaks_any _).mono ?_
    rintro e w1 ⟨rfl, HU⟩
    have HF0 := Lib.hid (fresh_new w1)
    have HU0 := Lib.hid (HU.alloc (.cells #[.int .u32 0, .int .i32 0, .int .u32 0, .slice none 0 0, .slice none 0 0, .int .i64 0] 40))
    have hsz := HU.size
    clear HU
    go_wp2_with fail
    refine (inv_no w1.heap.size a _ Ha.out).mono ?_
    rintro e v ⟨rfl, rfl⟩
    go_wp2_with fail
    refine (mul_any w1.heap.size _ a _ _ HF0.out (by omega)).mono ?_
    rintro e v1 ⟨rfl, R, U⟩
    have HF1 := Lib.hid R.fld
    have HU1 := Lib.hid (HU0.out.new U hsz)
    clear R U HF0 HU0
    rw [D.out]
    go_wp2_with fail
    refine (mul_any w1.heap.size _ a b _ HF1.out (by omega)).mono ?_
    rintro e v2 ⟨rfl, R, U⟩
    have HF2 := Lib.hid R.fld
    have HU2 := Lib.hid (HU1.out.new U hsz)
    clear R U HF1 HU1
    go_wp2_with fail
    refine (mul_any w1.heap.size _ a c _ HF2.out (by omega)).mono ?_
    rintro e v3 ⟨rfl, R, U⟩
    have HF3 := Lib.hid R.fld
    have HU3 := Lib.hid (HU2.out.new U hsz)
    clear R U HF2 HU2
    go_wp2_with fail
    refine (mul_any w1.heap.size _ a b _ HF3.out (by omega)).mono ?_
    rintro e v4 ⟨rfl, R, U⟩
    have HF4 := Lib.hid R.fld
    have HU4 := Lib.hid (HU3.out.new U hsz)
    clear R U HF3 HU3
    go_wp2_with fail
    refine (mul_any w1.heap.size _ _ c _ HF4.out (by omega)).mono ?_
    rintro e v5 ⟨rfl, R, U⟩
    have HF5 := Lib.hid R.fld
    have HU5 := Lib.hid (HU4.out.new U hsz)
    clear R U HF4 HU4
    rw [A1.out]
    go_wp2_with fail
    refine (mul_any w1.heap.size _ b c _ HF5.out (by omega)).mono ?_
    rintro e v6 ⟨rfl, R, U⟩
    have HF6 := Lib.hid R.fld
    have HU6 := Lib.hid (HU5.out.new U hsz)
    clear R U HF5 HU5
    go_wp2_with fail
    refine (mul_any w1.heap.size _ a _ _ HF6.out (by omega)).mono ?_
    rintro e v7 ⟨rfl, R, U⟩
    have HF7 := Lib.hid R.fld
    have HU7 := Lib.hid (HU6.out.new U hsz)
    clear R U HF6 HU6
    rw [A2.out]
    go_wp2_with fail
    refine (mul_any w1.heap.size _ a 1 _ HF7.out (by omega)).mono ?_
    rintro e v8 ⟨rfl, R, U⟩
    have HF8 := Lib.hid R.fld
    have HU8 := Lib.hid (HU7.out.new U hsz)
    clear R U HF7 HU7
    rw [O1.out]
    go_wp2_with fail
    refine (mul_any w1.heap.size _ a 0 _ HF8.out (by omega)).mono ?_
    rintro e v9 ⟨rfl, R, U⟩
    have HF9 := Lib.hid R.fld
    have HU9 := Lib.hid (HU8.out.new U hsz)
    clear R U HF8 HU8
    rw [O2.out]
    go_wp2_with fail
    go_ret
    exact ⟨rfl, HU9.out.ends⟩
  · have Ha := Lib.hid ha
    have Ta : (((low a : Nat) : Int) == 0) = false := beq_eq_false_iff_ne.2 (by omega)
    have I1 := Lib.hid ((congrArg (mul (low a)) (low_lit _ (invN_lt (low a)))).trans (mul_inv (low a) ha la))
    have I2 := Lib.hid ((congrArg (fun z => mul z (low ((invN (low a) : Nat) : Int))) (low_lit _ k1)).trans ((congrArg (mul (mul (low a) (low b))) (low_lit _ (invN_lt (low a)))).trans (mul_mul_inv (low a) (low b) ha la lb)))
    clear ha
    go_enter Try.func7, Try.ntmps7
    go_wp2_with fail
    refine (speaks_any _).mono ?_
    rintro e w1 ⟨rfl, HU⟩
    have HF0 := Lib.hid (fresh_new w1)
    have HU0 := Lib.hid (HU.alloc (.cells #[.int .u32 0, .int .i32 0, .int .u32 0, .slice none 0 0, .slice none 0 0, .int .i64 0] 40))
    have hsz := HU.size
    clear HU
    go_wp2_with fail
    refine (inv_yes w1.heap.size 0 a _ HF0.out Ha.out).mono ?_
    rintro e v1 ⟨rfl, R, U⟩
    have HF1 := Lib.hid R.fld
    have HU1 := Lib.hid (HU0.out.new U hsz)
    clear R U HF0 HU0
    go_wp2_with fail
    refine (mul_any w1.heap.size _ a _ _ HF1.out (by omega)).mono ?_
    rintro e v2 ⟨rfl, R, U⟩
    have HF2 := Lib.hid R.fld
    have HU2 := Lib.hid (HU1.out.new U hsz)
    clear R U HF1 HU1
    rw [D.out]
    go_wp2_with fail
    refine (mul_any w1.heap.size _ a b _ HF2.out (by omega)).mono ?_
    rintro e v3 ⟨rfl, R, U⟩
    have HF3 := Lib.hid R.fld
    have HU3 := Lib.hid (HU2.out.new U hsz)
    clear R U HF2 HU2
    go_wp2_with fail
    refine (mul_any w1.heap.size _ a c _ HF3.out (by omega)).mono ?_
    rintro e v4 ⟨rfl, R, U⟩
    have HF4 := Lib.hid R.fld
    have HU4 := Lib.hid (HU3.out.new U hsz)
    clear R U HF3 HU3
    go_wp2_with fail
    refine (mul_any w1.heap.size _ a b _ HF4.out (by omega)).mono ?_
    rintro e v5 ⟨rfl, R, U⟩
    have HF5 := Lib.hid R.fld
    have HU5 := Lib.hid (HU4.out.new U hsz)
    clear R U HF4 HU4
    go_wp2_with fail
    refine (mul_any w1.heap.size _ _ c _ HF5.out (by omega)).mono ?_
    rintro e v6 ⟨rfl, R, U⟩
    have HF6 := Lib.hid R.fld
    have HU6 := Lib.hid (HU5.out.new U hsz)
    clear R U HF5 HU5
    rw [A1.out]
    go_wp2_with fail
    refine (mul_any w1.heap.size _ b c _ HF6.out (by omega)).mono ?_
    rintro e v7 ⟨rfl, R, U⟩
    have HF7 := Lib.hid R.fld
    have HU7 := Lib.hid (HU6.out.new U hsz)
    clear R U HF6 HU6
    go_wp2_with fail
    refine (mul_any w1.heap.size _ a _ _ HF7.out (by omega)).mono ?_
    rintro e v8 ⟨rfl, R, U⟩
    have HF8 := Lib.hid R.fld
    have HU8 := Lib.hid (HU7.out.new U hsz)
    clear R U HF7 HU7
    rw [A2.out]
    go_wp2_with fail
    refine (mul_any w1.heap.size _ a 1 _ HF8.out (by omega)).mono ?_
    rintro e v9 ⟨rfl, R, U⟩
    have HF9 := Lib.hid R.fld
    have HU9 := Lib.hid (HU8.out.new U hsz)
    clear R U HF8 HU8
    rw [O1.out]
    go_wp2_with fail
    refine (mul_any w1.heap.size _ a 0 _ HF9.out (by omega)).mono ?_
    rintro e v10 ⟨rfl, R, U⟩
    have HF10 := Lib.hid R.fld
    have HU10 := Lib.hid (HU9.out.new U hsz)
    clear R U HF9 HU9
    rw [O2.out]
    go_wp2_with fail
    refine (mul_any w1.heap.size _ a _ _ HF10.out (by omega)).mono ?_
    rintro e v11 ⟨rfl, R, U⟩
    have HF11 := Lib.hid R.fld
    have HU11 := Lib.hid (HU10.out.new U hsz)
    clear R U HF10 HU10
    rw [I1.out]
    go_wp2_with fail
    refine (mul_any w1.heap.size _ a b _ HF11.out (by omega)).mono ?_
    rintro e v12 ⟨rfl, R, U⟩
    have HF12 := Lib.hid R.fld
    have HU12 := Lib.hid (HU11.out.new U hsz)
    clear R U HF11 HU11
    go_wp2_with fail
    refine (mul_any w1.heap.size _ _ _ _ HF12.out (by omega)).mono ?_
    rintro e v13 ⟨rfl, R, U⟩
    have HF13 := Lib.hid R.fld
    have HU13 := Lib.hid (HU12.out.new U hsz)
    clear R U HF12 HU12
    rw [I2.out]
    go_wp2_with fail
    go_ret
    exact ⟨rfl, HU13.out.ends⟩

set_option maxRecDepth 100000 in
set_option maxHeartbeats 1600000 in
theorem gfSquares_walk (a b : Int) (w : World) (_wa : (Lit.int .i64 a).wf = true) (_wb : (Lit.int .i64 b).wf = true) :
    Calls Try.prog 9 #[.int .i64 a, .int .i64 b] w fun e w' => e = .returned (.bool true) ∧ Below w.heap.size w w' := by
  have hnot : ∀ (x : Bool) (w : World), (Op.unary .not (.bool x)).run Try.prog w = .ok (.bool (!x)) w := fun _ _ => rfl
  have m1 : bits .and .i64 a 8191 = ((low a : Nat) : Int) := by rw [i64_8191, low_eq]
  have m2 : bits .and .i64 b 8191 = ((low b : Nat) : Int) := by rw [i64_8191, low_eq]
  have la := low_lt a
  have lb := low_lt b
  have k1 := mul_lt (low a) (low a) la
  have k2 := mul_lt (low b) (low b) lb
  have k3 := mul_lt (low a) (low 2) la
  have x1 : bits .xor .i64 ((mul (low a) (low a) : Nat) : Int) ((mul (low b) (low b) : Nat) : Int) = ((mul (low a) (low a) ^^^ mul (low b) (low b) : Nat) : Int) := i64_xor_nat _ _ (by omega) (by omega)
  have x2 : bits .xor .i64 ((mul (low a) (low 2) : Nat) : Int) ((low b : Nat) : Int) = ((mul (low a) (low 2) ^^^ low b : Nat) : Int) := i64_xor_nat _ _ (by omega) (by omega)
  have S0 : Hid (powN (low (bits .xor .i64 a b)) 2 = mul (low a) (low a) ^^^ mul (low b) (low b)) := by
    rw [low_xor, powN_two _ (xor_lt _ _ la lb), sq_xor _ _ la lb]; exact rfl
  have S1 := Lib.hid (powN_two (low a) la)
  have S2 := Lib.hid (powN_two (low b) lb)
  have S3 := Lib.hid (powN_all (low a) la)
  have S4 : Hid (hor (low 2) [b, a] = mul (low a) (low 2) ^^^ low b) := by
    show mul (mul 0 (low 2) ^^^ low a) (low 2) ^^^ low b = _
    rw [zero_mul, Nat.zero_xor]
  go_enter Try.func9, Try.ntmps9
  go_wp2_with fail
  refine (speaks_any _).mono ?_
  rintro e w1 ⟨rfl, HU⟩
  have HF0 := Lib.hid (fresh_new w1)
  have HU0 := Lib.hid (HU.alloc (.cells #[.int .u32 0, .int .i32 0, .int .u32 0, .slice none 0 0, .slice none 0 0, .int .i64 0] 40))
  have hsz := HU.size
  clear HU
  go_wp2_with fail
  refine (pow_any w1.heap.size _ _ 2 _ HF0.out).mono ?_
  rintro e v1 ⟨rfl, R, U⟩
  have HF1 := Lib.hid R
  have HU1 := Lib.hid (HU0.out.new U hsz)
  clear R U HF0 HU0
  rw [S0.out]
  go_wp2_with fail
  refine (pow_any w1.heap.size _ a 2 _ HF1.out).mono ?_
  rintro e v2 ⟨rfl, R, U⟩
  have HF2 := Lib.hid R
  have HU2 := Lib.hid (HU1.out.new U hsz)
  clear R U HF1 HU1
  rw [S1.out]
  go_wp2_with fail
  refine (pow_any w1.heap.size _ b 2 _ HF2.out).mono ?_
  rintro e v3 ⟨rfl, R, U⟩
  have HF3 := Lib.hid R
  have HU3 := Lib.hid (HU2.out.new U hsz)
  clear R U HF2 HU2
  rw [S2.out]
  go_wp2_with fail
  refine (pow_any w1.heap.size _ a 8192 _ HF3.out).mono ?_
  rintro e v4 ⟨rfl, R, U⟩
  have HF4 := Lib.hid R
  have HU4 := Lib.hid (HU3.out.new U hsz)
  clear R U HF3 HU3
  rw [S3.out]
  go_wp2_with fail
  refine (mul_any w1.heap.size _ a a _ HF4.out (by omega)).mono ?_
  rintro e v5 ⟨rfl, R, U⟩
  have HF5 := Lib.hid R.fld
  have HU5 := Lib.hid (HU4.out.new U hsz)
  clear R U HF4 HU4
  go_wp2_with fail
  refine (pow_any w1.heap.size _ a 2 _ HF5.out).mono ?_
  rintro e v6 ⟨rfl, R, U⟩
  have HF6 := Lib.hid R
  have HU6 := Lib.hid (HU5.out.new U hsz)
  clear R U HF5 HU5
  rw [S1.out]
  go_wp2_with fail
  have hz : v6.heap.size = v6.heap.size := rfl
  have HI : Hid (Ints (v6.alloc (.cells #[.int .i64 b, .int .i64 a] 3)) (v6.heap.size + 1) (some ⟨v6.heap.size, 0, none⟩) 2 [b, a]) := by
    refine ⟨rfl, fun _ => ⟨v6.heap.size, 0, rfl, by omega, fun i hi => ?_⟩⟩
    rw [cell_of (heap_alloc_new v6 _)]
    have : i = 0 ∨ i = 1 := by omega
    rcases this with rfl | rfl <;> rfl
  have HF7 := Lib.hid (HF6.out.alloc (.cells #[.int .i64 b, .int .i64 a] 3))
  have HU7 := Lib.hid (HU6.out.alloc (.cells #[.int .i64 b, .int .i64 a] 3))
  have hlt := HF6.out.lt
  refine (eval_any w1.heap.size _ 2 _ 2 2 (v6.heap.size + 1) [b, a] _ HF7.out HI.out (by simp) (by simp [maxLen]) (fun g hg _ => by
    have e : v6.heap.size = g := by simpa using hg
    omega)).mono ?_
  rintro e v8 ⟨rfl, R, U⟩
  have HF8 := Lib.hid R.fld
  have HU8 := Lib.hid (HU7.out.new U hsz)
  clear R U HF7 HU7 HF6 HU6
  rw [S4.out]
  go_wp2_with fail
  refine (mul_any w1.heap.size _ a 2 _ HF8.out (by omega)).mono ?_
  rintro e v9 ⟨rfl, R, U⟩
  have HF9 := Lib.hid R.fld
  have HU9 := Lib.hid (HU8.out.new U hsz)
  clear R U HF8 HU8
  go_wp2_with fail
  go_ret
  exact ⟨rfl, HU9.out.ends⟩
end Go.Proofs.Ytfahibnbfinibaa
