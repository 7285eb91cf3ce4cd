/- Walks over package poly: addShifted, has. -/
import Derived.Test.YtpfmdlmnmagkmaaPa
namespace Go.Proofs.Ytpfmdlmnmagkmaa
open Go.RowKit Pm

/-- the words below i of R, the others of P -/
def mix (P R i : Nat) : Nat := 2 ^ (64 * i) * (P / 2 ^ (64 * i)) + R % 2 ^ (64 * i)
theorem mix_bit (P R i t : Nat) : (mix P R i).testBit t = if t < 64 * i then R.testBit t else P.testBit t := by
  unfold mix
  rw [Nat.testBit_two_pow_mul_add _ (Nat.mod_lt _ (Nat.two_pow_pos _))]
  split
  · rename_i h; rw [Nat.testBit_mod_two_pow]; simp [h]
  · rename_i h; rw [Nat.testBit_div_two_pow]; congr 1; omega
theorem mix_word (P R i j : Nat) : word (mix P R i) j = if j < i then word R j else word P j := by
  apply Nat.eq_of_testBit_eq
  intro t
  rw [word_bit, mix_bit]
  by_cases h : t < 64
  · by_cases hj : j < i
    · rw [if_pos hj, word_bit, if_pos (by omega)]
    · rw [if_neg hj, word_bit, if_neg (by omega)]
  · have f : decide (t < 64) = false := by simp; omega
    rw [f, Bool.false_and]
    by_cases hj : j < i
    · rw [if_pos hj, word_bit, f, Bool.false_and]
    · rw [if_neg hj, word_bit, f, Bool.false_and]

theorem Coef.set2 {w : World} {b P Q i v : Nat} (hc : Coef w b P) (u : Value) (h : word Q i = v) (ho : ∀ j, j < 257 → j ≠ i → word Q j = word P j) : Coef ((w.setCell ⟨b, i, none⟩ u).setCell ⟨b, i, none⟩ (.int .u64 ((v : Nat) : Int))) b Q := by
  unfold Coef
  rw [← wordsA_set P Q i v h ho]
  have := block_set (i := i) (block_set (i := i) hc u) (.int .u64 ((v : Nat) : Int))
  rw [Array.setIfInBounds_setIfInBounds] at this
  exact this
theorem Coef.congr {w : World} {b P Q : Nat} (h : Coef w b P) (e : ∀ i, i < 257 → word P i = word Q i) : Coef w b Q := by
  unfold Coef at h ⊢
  have : wordsA P = wordsA Q := by
    apply Array.ext
    · simp [wordsA]
    · intro i h1 h2
      have hi : i < 257 := by simpa [wordsA] using h2
      simp [wordsA, e i hi]
  rw [← this]; exact h

set_option maxRecDepth 20000 in
set_option maxHeartbeats 1600000 in
theorem add_any (b o P O m : Nat) (w : World) (hb : Coef w b P) (ho : Coef w o O) (hbo : ¬ b = o) (hm : m ≤ 16384) :
    Calls Try.prog 68 #[.pointer (some ⟨b, 0, none⟩), .pointer (some ⟨o, 0, none⟩), .int .i64 (m : Int)] w fun e w' =>
      e = .returned (.tuple #[]) ∧ Coef w' b (P ^^^ O * 2 ^ m) ∧ Coef w' o O ∧ Upd (oneBlock b) w w' := by
  obtain ⟨R, HR⟩ : ∃ R, Hid (P ^^^ O * 2 ^ m = R) := ⟨_, rfl⟩
  rw [HR.out]
  obtain ⟨s, Hs⟩ : ∃ s, Hid (s = m / 64) := ⟨_, rfl⟩
  have e1 : (m : Int) / 64 = (s : Int) := by rw [Hs.out]; omega
  have hs : s < 257 := by rw [Hs.out]; omega
  have hw : ∀ j, word R j = word P j ^^^ ((if s ≤ j then word O (j - s) * 2 ^ (m % 64) % 2 ^ 64 else 0) ^^^ (if s < j then word O (j - s - 1) / 2 ^ (64 - m % 64) else 0)) := by
    intro j
    rw [← HR.out, word_xor, word_shift, Hs.out]
  have HW := Lib.hid hw
  have HS : Hid (Coef w b (mix P R s)) := hb.congr fun i _ => by
    rw [mix_word]
    split
    · rename_i h; rw [hw, if_neg (by omega), if_neg (by omega), Nat.xor_zero, Nat.xor_zero]
    · rfl
  have HO := Lib.hid ho
  clear hw hb ho
  go_enter Try.func68, Try.ntmps68
  go_wp2
  go_loopw [8] (fun i wr => ∃ k : Nat, s ≤ k ∧ k ≤ 257 ∧ i = .int .i64 (k : Int) ∧ Hid (Coef wr b (mix P R k)) ∧ Hid (Coef wr o O) ∧ Hid (Upd (oneBlock b) w wr)) (fun i _ => 257 - (intOf i).toNat)
  case atStart => exact ⟨s, Nat.le_refl _, by omega, rfl, HS, HO, Upd.refl _ _⟩
  case round =>
    clear HS HO
    obtain ⟨k, hsk, hk, rfl, HC, HO, HU⟩ := hrel
    by_cases h0 : k < 257
    · have c1 := HC.out.cell h0
      have f1 := HC.out.free k
      have c2 := HO.out.cell (i := k - s) (by omega)
      have nb : ¬ o = b := fun e => hbo e.symm
      obtain ⟨x, hx⟩ : ∃ x, x = word P k ^^^ word O (k - s) * 2 ^ (m % 64) % 2 ^ 64 := ⟨_, rfl⟩
      have v1 : bits .xor .u64 ((word (mix P R k) k : Nat) : Int) (IntKind.u64.wrap (((word O (k - s) : Nat) : Int) * 2 ^ (m % 64))) = (x : Int) := by
        have e : IntKind.u64.wrap (((word O (k - s) : Nat) : Int) * 2 ^ (m % 64)) = ((word O (k - s) * 2 ^ (m % 64) % 2 ^ 64 : Nat) : Int) := by
          have e2 : ((word O (k - s) : Nat) : Int) * 2 ^ (m % 64) = ((word O (k - s) * 2 ^ (m % 64) : Nat) : Int) := by rw [Int.natCast_mul, Int.natCast_pow]; rfl
          rw [IntKind.wrap_u64, e2]
          generalize word O (k - s) * 2 ^ (m % 64) = z
          omega
        rw [e, u64_xor_nat _ _ (word_lt _ _) (Nat.mod_lt _ (by omega)), mix_word, if_neg (by omega), hx]
      have hxl : x < 2 ^ 64 := by rw [hx]; exact Nat.xor_lt_two_pow (word_lt _ _) (Nat.mod_lt _ (by omega))
      have hstep : ∀ j, j < 257 → j ≠ k → word (mix P R (k + 1)) j = word (mix P R k) j := fun j _ hne => by
        rw [mix_word, mix_word]
        by_cases h : j < k
        · rw [if_pos h, if_pos (by omega)]
        · rw [if_neg h, if_neg (by omega)]
      have HX := Lib.hid hx
      clear hx
      by_cases h1 : s < k
      · have c3 := HO.out.cell (i := k - s - 1) (by omega)
        have v2 : bits .xor .u64 (x : Int) (((word O (k - s - 1) : Nat) : Int) / 2 ^ (64 - m % 64)) = ((word R k : Nat) : Int) := by
          have e2 : ((word O (k - s - 1) : Nat) : Int) / 2 ^ (64 - m % 64) = ((word O (k - s - 1) / 2 ^ (64 - m % 64) : Nat) : Int) := by rw [Int.natCast_ediv, Int.natCast_pow]; rfl
          rw [e2, u64_xor_nat _ _ hxl (Nat.lt_of_le_of_lt (Nat.div_le_self _ _) (word_lt _ _)), HX.out, HW.out k, if_pos (by omega), if_pos h1, Nat.xor_assoc]
        have hR : word (mix P R (k + 1)) k = word R k := by rw [mix_word, if_pos (by omega)]
        have HN : Hid (Coef ((wr.setCell ⟨b, k, none⟩ (.int .u64 (x : Int))).setCell ⟨b, k, none⟩ (.int .u64 ((word R k : Nat) : Int))) b (mix P R (k + 1))) := HC.out.set2 _ hR hstep
        have HNO : Hid (Coef ((wr.setCell ⟨b, k, none⟩ (.int .u64 (x : Int))).setCell ⟨b, k, none⟩ (.int .u64 ((word R k : Nat) : Int))) o O) := (HO.out.other nb _).other nb _
        have HNU : Hid (Upd (oneBlock b) w ((wr.setCell ⟨b, k, none⟩ (.int .u64 (x : Int))).setCell ⟨b, k, none⟩ (.int .u64 ((word R k : Nat) : Int)))) := (HU.out.setCell (p := ⟨b, k, none⟩) (.inl rfl) _).setCell (p := ⟨b, k, none⟩) (.inl rfl) _
        clear hstep hR
        go_wp2
        go_region
        go_wp2
        go_region
        go_wp2
        go_roundw
        case rel => exact ⟨k + 1, by omega, by omega, by go_num, HN, HNO, HNU.out.drew.drew⟩
        case measure => simp [intOf]; omega
      · have hR : word (mix P R (k + 1)) k = x := by
          rw [mix_word, if_pos (by omega), HW.out k, if_pos (by omega), if_neg h1, Nat.xor_zero, HX.out]
        have HN : Hid (Coef (wr.setCell ⟨b, k, none⟩ (.int .u64 (x : Int))) b (mix P R (k + 1))) := HC.out.set hR hstep
        have HNO : Hid (Coef (wr.setCell ⟨b, k, none⟩ (.int .u64 (x : Int))) o O) := HO.out.other nb _
        have HNU : Hid (Upd (oneBlock b) w (wr.setCell ⟨b, k, none⟩ (.int .u64 (x : Int)))) := HU.out.setCell (p := ⟨b, k, none⟩) (.inl rfl) _
        clear hstep hR
        go_wp2
        go_region
        go_wp2
        go_roundw
        case rel => exact ⟨k + 1, by omega, by omega, by go_num, HN, HNO, HNU.out.drew⟩
        case measure => simp [intOf]; omega
    · obtain rfl : k = 257 := by omega
      go_wp2
      go_end0
      exact ⟨rfl, HC.out.congr fun i hi => by rw [mix_word, if_pos hi], HO.out, HU.out⟩
end Go.Proofs.Ytpfmdlmnmagkmaa
