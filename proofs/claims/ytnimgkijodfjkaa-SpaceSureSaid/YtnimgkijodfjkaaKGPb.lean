import Derived.Test.YtnimgkijodfjkaaKGPm
import Derived.Test.YtnimgkijodfjkaaKApp
import Derived.Test.YtnimgkijodfjkaaKShelf
import Derived.Deep.AppendSrc
import Derived.Deep.OwnRows
/- Walks over package poly: addShifted, has. -/
namespace Go.Proofs.Ytnimgkijodfjkaa
open Go.RowKit Pm

/-- the words below i of R, the others of P -/
def mix (P R i : Nat) : Nat := 2 ^ (64 * i) * (P / 2 ^ (64 * i)) + R % 2 ^ (64 * i)
theorem mix_bit (P R i t : Nat) : (mix P R i).testBit t = if t < 64 * i then R.testBit t else P.testBit t := by
  unfold mix
  rw [Nat.testBit_two_pow_mul_add _ (Nat.mod_lt _ (Nat.two_pow_pos _))]
  split
  · rename_i h; rw [Nat.testBit_mod_two_pow]; simp [h]
  · rename_i h; rw [Nat.testBit_div_two_pow]; congr 1; omega
theorem mix_word (P R i j : Nat) : word (mix P R i) j = if j < i then word R j else word P j := by
  apply Nat.eq_of_testBit_eq
  intro t
  rw [word_bit, mix_bit]
  by_cases h : t < 64
  · by_cases hj : j < i
    · rw [if_pos hj, word_bit, if_pos (by omega)]
    · rw [if_neg hj, word_bit, if_neg (by omega)]
  · have f : decide (t < 64) = false := by simp; omega
    rw [f, Bool.false_and]
    by_cases hj : j < i
    · rw [if_pos hj, word_bit, f, Bool.false_and]
    · rw [if_neg hj, word_bit, f, Bool.false_and]

theorem Coef.set2 {w : World} {b P Q i v : Nat} (hc : Coef w b P) (u : Value) (h : word Q i = v) (ho : ∀ j, j < 257 → j ≠ i → word Q j = word P j) : Coef ((w.setCell ⟨b, i, none⟩ u).setCell ⟨b, i, none⟩ (.int .u64 ((v : Nat) : Int))) b Q := by
  unfold Coef
  rw [← wordsA_set P Q i v h ho]
  have := block_set (i := i) (block_set (i := i) hc u) (.int .u64 ((v : Nat) : Int))
  rw [Array.setIfInBounds_setIfInBounds] at this
  exact this
theorem Coef.congr {w : World} {b P Q : Nat} (h : Coef w b P) (e : ∀ i, i < 257 → word P i = word Q i) : Coef w b Q := by
  unfold Coef at h ⊢
  have : wordsA P = wordsA Q := by
    apply Array.ext
    · simp [wordsA]
    · intro i h1 h2
      have hi : i < 257 := by simpa [wordsA] using h2
      simp [wordsA, e i hi]
  rw [← this]; exact h

set_option maxRecDepth 20000 in
set_option maxHeartbeats 1600000 in
theorem add_any (b o P O m : Nat) (w : World) (hb : Coef w b P) (ho : Coef w o O) (hbo : ¬ b = o) (hm : m ≤ 16384) :
    Calls Try.prog 76 #[.pointer (some ⟨b, 0, none⟩), .pointer (some ⟨o, 0, none⟩), .int .i64 (m : Int)] w fun e w' =>
      e = .returned (.tuple #[]) ∧ Coef w' b (P ^^^ O * 2 ^ m) ∧ Coef w' o O ∧ Upd (oneBlock b) w w' := by
  obtain ⟨R, HR⟩ : ∃ R, Hid (P ^^^ O * 2 ^ m = R) := ⟨_, rfl⟩
  rw [HR.out]
  obtain ⟨s, Hs⟩ : ∃ s, Hid (s = m / 64) := ⟨_, rfl⟩
  have e1 : (m : Int) / 64 = (s : Int) := by rw [Hs.out]; omega
  have hs : s < 257 := by rw [Hs.out]; omega
  have hw : ∀ j, word R j = word P j ^^^ ((if s ≤ j then word O (j - s) * 2 ^ (m % 64) % 2 ^ 64 else 0) ^^^ (if s < j then word O (j - s - 1) / 2 ^ (64 - m % 64) else 0)) := by
    intro j
    rw [← HR.out, word_xor, word_shift, Hs.out]
  have HW := Lib.hid hw
  have HS : Hid (Coef w b (mix P R s)) := hb.congr fun i _ => by
    rw [mix_word]
    split
    · rename_i h; rw [hw, if_neg (by omega), if_neg (by omega), Nat.xor_zero, Nat.xor_zero]
    · rfl
  have HO := Lib.hid ho
  clear hw hb ho
  go_enter Try.func76, Try.ntmps76
  go_wp2
  go_loopw [8] (fun i wr => ∃ k : Nat, s ≤ k ∧ k ≤ 257 ∧ i = .int .i64 (k : Int) ∧ Hid (Coef wr b (mix P R k)) ∧ Hid (Coef wr o O) ∧ Hid (Upd (oneBlock b) w wr)) (fun i _ => 257 - (intOf i).toNat)
  case atStart => exact ⟨s, Nat.le_refl _, by omega, rfl, HS, HO, Upd.refl _ _⟩
  case round =>
    clear HS HO
    obtain ⟨k, hsk, hk, rfl, HC, HO, HU⟩ := hrel
    by_cases h0 : k < 257
    · have c1 := HC.out.cell h0
      have f1 := HC.out.free k
      have c2 := HO.out.cell (i := k - s) (by omega)
      have nb : ¬ o = b := fun e => hbo e.symm
      obtain ⟨x, hx⟩ : ∃ x, x = word P k ^^^ word O (k - s) * 2 ^ (m % 64) % 2 ^ 64 := ⟨_, rfl⟩
      have v1 : bits .xor .u64 ((word (mix P R k) k : Nat) : Int) (IntKind.u64.wrap (((word O (k - s) : Nat) : Int) * 2 ^ (m % 64))) = (x : Int) := by
        have e : IntKind.u64.wrap (((word O (k - s) : Nat) : Int) * 2 ^ (m % 64)) = ((word O (k - s) * 2 ^ (m % 64) % 2 ^ 64 : Nat) : Int) := by
          have e2 : ((word O (k - s) : Nat) : Int) * 2 ^ (m % 64) = ((word O (k - s) * 2 ^ (m % 64) : Nat) : Int) := by rw [Int.natCast_mul, Int.natCast_pow]; rfl
          rw [IntKind.wrap_u64, e2]
          generalize word O (k - s) * 2 ^ (m % 64) = z
          omega
        rw [e, u64_xor_nat _ _ (word_lt _ _) (Nat.mod_lt _ (by omega)), mix_word, if_neg (by omega), hx]
      have hxl : x < 2 ^ 64 := by rw [hx]; exact Nat.xor_lt_two_pow (word_lt _ _) (Nat.mod_lt _ (by omega))
      have hstep : ∀ j, j < 257 → j ≠ k → word (mix P R (k + 1)) j = word (mix P R k) j := fun j _ hne => by
        rw [mix_word, mix_word]
        by_cases h : j < k
        · rw [if_pos h, if_pos (by omega)]
        · rw [if_neg h, if_neg (by omega)]
      have HX := Lib.hid hx
      clear hx
      by_cases h1 : s < k
      · have c3 := HO.out.cell (i := k - s - 1) (by omega)
        have v2 : bits .xor .u64 (x : Int) (((word O (k - s - 1) : Nat) : Int) / 2 ^ (64 - m % 64)) = ((word R k : Nat) : Int) := by
          have e2 : ((word O (k - s - 1) : Nat) : Int) / 2 ^ (64 - m % 64) = ((word O (k - s - 1) / 2 ^ (64 - m % 64) : Nat) : Int) := by rw [Int.natCast_ediv, Int.natCast_pow]; rfl
          rw [e2, u64_xor_nat _ _ hxl (Nat.lt_of_le_of_lt (Nat.div_le_self _ _) (word_lt _ _)), HX.out, HW.out k, if_pos (by omega), if_pos h1, Nat.xor_assoc]
        have hR : word (mix P R (k + 1)) k = word R k := by rw [mix_word, if_pos (by omega)]
        have HN : Hid (Coef ((wr.setCell ⟨b, k, none⟩ (.int .u64 (x : Int))).setCell ⟨b, k, none⟩ (.int .u64 ((word R k : Nat) : Int))) b (mix P R (k + 1))) := HC.out.set2 _ hR hstep
        have HNO : Hid (Coef ((wr.setCell ⟨b, k, none⟩ (.int .u64 (x : Int))).setCell ⟨b, k, none⟩ (.int .u64 ((word R k : Nat) : Int))) o O) := (HO.out.other nb _).other nb _
        have HNU : Hid (Upd (oneBlock b) w ((wr.setCell ⟨b, k, none⟩ (.int .u64 (x : Int))).setCell ⟨b, k, none⟩ (.int .u64 ((word R k : Nat) : Int)))) := (HU.out.setCell (p := ⟨b, k, none⟩) (.inl rfl) _).setCell (p := ⟨b, k, none⟩) (.inl rfl) _
        clear hstep hR
        go_wp2
        go_region
        go_wp2
        go_region
        go_wp2
        go_roundw
        case rel => exact ⟨k + 1, by omega, by omega, by go_num, HN, HNO, HNU.out.drew.drew⟩
        case measure => simp [intOf]; omega
      · have hR : word (mix P R (k + 1)) k = x := by
          rw [mix_word, if_pos (by omega), HW.out k, if_pos (by omega), if_neg h1, Nat.xor_zero, HX.out]
        have HN : Hid (Coef (wr.setCell ⟨b, k, none⟩ (.int .u64 (x : Int))) b (mix P R (k + 1))) := HC.out.set hR hstep
        have HNO : Hid (Coef (wr.setCell ⟨b, k, none⟩ (.int .u64 (x : Int))) o O) := HO.out.other nb _
        have HNU : Hid (Upd (oneBlock b) w (wr.setCell ⟨b, k, none⟩ (.int .u64 (x : Int)))) := HU.out.setCell (p := ⟨b, k, none⟩) (.inl rfl) _
        clear hstep hR
        go_wp2
        go_region
        go_wp2
        go_roundw
        case rel => exact ⟨k + 1, by omega, by omega, by go_num, HN, HNO, HNU.out.drew⟩
        case measure => simp [intOf]; omega
    · obtain rfl : k = 257 := by omega
      go_wp2
      go_end0
      exact ⟨rfl, HC.out.congr fun i hi => by rw [mix_word, if_pos hi], HO.out, HU.out⟩
end Go.Proofs.Ytnimgkijodfjkaa

/- Walks over package poly: has, and the exponents of coefficients. -/
namespace Go.Proofs.Ytnimgkijodfjkaa
open Go.RowKit Pm

theorem bitLenAux_spec (f x : Nat) (h0 : 0 < x) (h : x < 2 ^ f) : ∃ t, Lib.bitLenAux f x = t + 1 ∧ 2 ^ t ≤ x ∧ x < 2 ^ (t + 1) := by
  induction f generalizing x with
  | zero => simp at h; omega
  | succ f ih =>
    unfold Lib.bitLenAux
    rw [if_neg (by omega)]
    by_cases h1 : x / 2 = 0
    · refine ⟨0, ?_, by simp; omega, by simp; omega⟩
      rw [h1]
      cases f <;> simp [Lib.bitLenAux]
    · obtain ⟨t, e, l, u⟩ := ih (x / 2) (by omega) (by rw [Nat.pow_succ] at h; omega)
      refine ⟨t + 1, by rw [e]; omega, ?_, ?_⟩
      · rw [Nat.pow_succ]; omega
      · rw [Nat.pow_succ]; omega
theorem bitLen_spec (x : Nat) (h0 : 0 < x) (h : x < 2 ^ 64) : ∃ t, t < 64 ∧ Lib.bitLen x = t + 1 ∧ 2 ^ t ≤ x ∧ x < 2 ^ (t + 1) := by
  obtain ⟨t, e, l, u⟩ := bitLenAux_spec 64 x h0 h
  refine ⟨t, ?_, e, l, u⟩
  rcases Nat.lt_or_ge t 64 with ht | ht
  · exact ht
  · have := Nat.pow_le_pow_right (n := 2) (by omega) ht
    omega

theorem exps_length (P : Nat) : (exps P).length ≤ 16385 := by
  have h : ∀ n, (lst n P).length ≤ n := by
    intro n
    induction n with
    | zero => exact Nat.le_refl _
    | succ n ih =>
      unfold lst
      split
      · rw [List.length_cons]; omega
      · omega
  exact h top

/-- the state within a word -/
structure Inner (P i W : Nat) (out : List Int) (Q : Nat) : Prop where
  same : out ++ exps Q = exps P
  wd : Q / 2 ^ (64 * i) = W
  rest : Q % 2 ^ (64 * i) = P % 2 ^ (64 * i)
  lt : Q < 2 ^ top
theorem Inner.start {P i : Nat} {out : List Int} (h : out ++ exps (P % 2 ^ (64 * (i + 1))) = exps P) (hP : P < 2 ^ top) : Inner P i (word P i) out (P % 2 ^ (64 * (i + 1))) := by
  refine ⟨h, ?_, ?_, Nat.lt_of_le_of_lt (Nat.mod_le _ _) hP⟩
  · apply Nat.eq_of_testBit_eq
    intro j
    rw [Nat.testBit_div_two_pow, Nat.testBit_mod_two_pow, word_bit, Nat.add_comm j]
    congr 1
    exact decide_eq_decide.2 (by omega)
  · apply Nat.eq_of_testBit_eq
    intro j
    rw [Nat.testBit_mod_two_pow, Nat.testBit_mod_two_pow, Nat.testBit_mod_two_pow]
    by_cases hj : j < 64 * i
    · have : j < 64 * (i + 1) := by omega
      simp [hj, this]
    · simp [hj]
theorem Inner.done {P i : Nat} {out : List Int} {Q : Nat} (h : Inner P i 0 out Q) : out ++ exps (P % 2 ^ (64 * i)) = exps P := by
  have e : Q = P % 2 ^ (64 * i) := by
    have := Nat.mod_add_div Q (2 ^ (64 * i))
    rw [h.wd, h.rest, Nat.mul_zero, Nat.add_zero] at this
    exact this.symm
  rw [← e]; exact h.same
theorem Inner.step {P i W : Nat} {out : List Int} {Q t : Nat} (h : Inner P i W out Q) (h1 : 2 ^ t ≤ W) (h2 : W < 2 ^ (t + 1)) :
    i * 64 + t ≤ 16384 ∧ Inner P i (W ^^^ 2 ^ t) (out ++ [((i * 64 + t : Nat) : Int)]) (Q ^^^ 2 ^ (i * 64 + t)) := by
  have hp := Nat.two_pow_pos (64 * i)
  have e : i * 64 + t = 64 * i + t := by omega
  have l1 : 2 ^ (i * 64 + t) ≤ Q := by
    have := Nat.mul_le_of_le_div _ _ _ (Nat.le_trans h1 (Nat.le_of_eq h.wd.symm))
    rw [e, Nat.pow_add, Nat.mul_comm]; exact this
  have l2 : Q < 2 ^ (i * 64 + t + 1) := by
    have := (Nat.div_lt_iff_lt_mul hp).1 (Nat.lt_of_le_of_lt (Nat.le_of_eq h.wd) h2)
    have e2 : i * 64 + t + 1 = (t + 1) + 64 * i := by omega
    rw [e2, Nat.pow_add]; exact this
  have ht : i * 64 + t ≤ 16384 := by
    rcases Nat.lt_or_ge 16384 (i * 64 + t) with hh | hh
    · have := Nat.pow_le_pow_right (n := 2) (by omega) (show top ≤ i * 64 + t by unfold top; omega)
      have := h.lt
      omega
    · exact hh
  refine ⟨ht, ?_, ?_, ?_, ?_⟩
  · rw [List.append_assoc, ← h.same, exps_top Q (i * 64 + t) l1 l2 ht]; rfl
  · rw [← h.wd]
    apply Nat.eq_of_testBit_eq
    intro j
    rw [Nat.testBit_div_two_pow, Nat.testBit_xor, Nat.testBit_xor, Nat.testBit_div_two_pow, Nat.testBit_two_pow, Nat.testBit_two_pow]
    congr 1
    exact decide_eq_decide.2 (by omega)
  · rw [← h.rest]
    apply Nat.eq_of_testBit_eq
    intro j
    rw [Nat.testBit_mod_two_pow, Nat.testBit_mod_two_pow, Nat.testBit_xor, Nat.testBit_two_pow]
    by_cases hj : j < 64 * i
    · have : decide (i * 64 + t = j) = false := by simp; omega
      simp [this]
    · simp [hj]
  · exact Nat.xor_lt_two_pow h.lt (Nat.pow_lt_pow_right (by omega) (by unfold top; omega))

theorem xor_top (P t : Nat) (h1 : 2 ^ t ≤ P) (h2 : P < 2 ^ (t + 1)) : P ^^^ 2 ^ t = P % 2 ^ t := by
  have hb : P.testBit t = true := by
    rw [Nat.testBit_eq_decide_div_mod_eq]
    have e : P / 2 ^ t = 1 := by
      have l1 : 1 ≤ P / 2 ^ t := (Nat.le_div_iff_mul_le (Nat.two_pow_pos t)).2 (by omega)
      have l2 : P / 2 ^ t < 2 := (Nat.div_lt_iff_lt_mul (Nat.two_pow_pos t)).2 (by rw [Nat.pow_succ] at h2; omega)
      omega
    rw [e]; rfl
  apply Nat.eq_of_testBit_eq
  intro i
  rw [Nat.testBit_xor, Nat.testBit_mod_two_pow, Nat.testBit_two_pow]
  rcases Nat.lt_trichotomy i t with hi | hi | hi
  · have : decide (t = i) = false := by simp; omega
    simp [hi, this]
  · subst hi; simp [hb]
  · have h3 : P.testBit i = false := Nat.testBit_lt_two_pow (Nat.lt_of_lt_of_le h2 (Nat.pow_le_pow_right (by omega) hi))
    have : decide (t = i) = false := by simp; omega
    rw [h3, this]; simp
theorem Upd.grownOwn {a b c : World} {v : Value} (h : Upd noBlock a b) (g : b.grownBy c v.ownBlock) (hv : ∀ k, v.ownBlock = some k → a.heap.size ≤ k) : Upd noBlock a c :=
  ⟨g.os.trans h.os, g.tape.trans h.tape, g.output.trans h.output, Nat.le_trans h.size g.size, fun i hi hn => (g.block i (Nat.lt_of_lt_of_le hi h.size) (fun e => by have := hv i e.symm; omega)).trans (h.block i hi hn)⟩
theorem len64_any (x : Nat) (w : World) (h : x < 2 ^ 64) :
    Calls Try.prog 90 #[.int .u64 (x : Int)] w fun e w' => e = .returned (.int .i64 ((Lib.bitLen x : Nat) : Int)) ∧ w = w' :=
  (Try.bits_Len64 (x : Int) w (by omega) (by omega)).mono fun e w' ⟨h1, h2⟩ => ⟨h1, h2.symm⟩
theorem mod_all (P : Nat) (h : P < 2 ^ top) : P % 2 ^ (64 * 257) = P := by
  have e : top ≤ 64 * 257 := by unfold top; omega
  generalize 64 * 257 = z at e
  exact Nat.mod_eq_of_lt (Nat.lt_of_lt_of_le h (Nat.pow_le_pow_right (by omega) e))
theorem intParts2 : ∃ i0, Try.prog.info? 3 = some i0 ∧ i0.zero = some (.int .i64 0) ∧ i0.size = 1 ∧ i0.bytes = 8 := by
  have intCells : (Try.prog.info? 3).map (fun i => (i.zero, i.size, i.bytes)) = some (some (.int .i64 0), 1, 8) := by kernel_rfl
  obtain ⟨i0, h1, h2⟩ := Option.map_eq_some_iff.1 intCells
  simp only [Prod.mk.injEq] at h2
  exact ⟨i0, h1, h2.1, h2.2.1, h2.2.2⟩

set_option maxRecDepth 20000 in
set_option maxHeartbeats 1600000 in
theorem poly_any (b P : Nat) (w : World) (hb : Coef w b P) (hP : P < 2 ^ top) :
    Calls Try.prog 75 #[.pointer (some ⟨b, 0, none⟩)] w fun e w' =>
      ∃ v, e = .returned v ∧ w'.ownsRow w.heap.size 3 1 v (exps P).length (vals (exps P)) ∧ Upd noBlock w w' := by
  obtain ⟨i0, hi0, hz0, hz1, hz2⟩ := intParts2
  have HB := Lib.hid hb
  have hbs := hb.lt
  have HP := Lib.hid hP
  clear hb hP
  go_enter Try.func75, Try.ntmps75
  go_wp2
  go_loopw [3, 4] (fun v i wr => ∃ (k : Nat) (out : List Int), k ≤ 257 ∧ i = .int .i64 ((k : Int) - 1) ∧ Hid (wr.ownsRow w.heap.size 3 1 v out.length (vals out)) ∧ Hid (out ++ exps (P % 2 ^ (64 * k)) = exps P) ∧ Hid (Upd noBlock w wr)) (fun _ i _ => (intOf i + 1).toNat)
  case atStart =>
    refine ⟨257, [], Nat.le_refl _, rfl, World.ownsRow_nil _ _ _ _, ?_, Upd.refl _ _⟩
    exact congrArg exps (mod_all P HP.out)
  case round =>
    obtain ⟨k, out, hk, rfl, HO, HE, HU⟩ := hrel
    by_cases h0 : 0 < k
    · obtain ⟨i, rfl⟩ : ∃ i, k = i + 1 := ⟨k - 1, by omega⟩
      have e1 : ((i + 1 : Nat) : Int) - 1 = (i : Int) := by omega
      rw [e1]
      have hb2 := HB.out.upd HU.out (fun h => h)
      have c1 := hb2.cell (i := i) (by omega)
      have HI := Lib.hid (Inner.start HE.out HP.out)
      have hwl := word_lt P i
      clear e1 hb2 HE
      go_wp2
      obtain ⟨wo, rfl⟩ : ∃ wo : World, wo = wr := ⟨_, rfl⟩
      go_loopw [3, 5] (fun v x wr => ∃ (out : List Int) (W Q : Nat), W < 2 ^ 64 ∧ x = .int .u64 (W : Int) ∧ Hid (wr.ownsRow w.heap.size 3 1 v out.length (vals out)) ∧ Hid (Inner P i W out Q) ∧ Hid (Upd noBlock w wr)) (fun _ x _ => (intOf x).toNat)
      case atStart => exact ⟨out, _, _, hwl, rfl, HO, HI, HU⟩
      case round =>
        clear HO HI HU hwl c1
        obtain ⟨out, W, Q, hW, rfl, HO, HI, HU⟩ := hrel
        by_cases hz : 0 < W
        · obtain ⟨t, ht64, hlen, hl, hu⟩ := bitLen_spec W hz hW
          obtain ⟨ht, hI2⟩ := HI.out.step hl hu
          have HI2 := Lib.hid hI2
          have t1 : ((W : Int) != 0) = true := by rw [bne_iff_ne]; omega
          have hx : bits .xor .u64 (W : Int) (IntKind.u64.wrap (2 ^ t)) = ((W ^^^ 2 ^ t : Nat) : Int) := by
            rw [u64_pow _ ht64, u64_xor_nat _ _ hW (Nat.pow_lt_pow_right (by omega) ht64)]
          have hlt : W ^^^ 2 ^ t < W := by
            have h1 := xor_top W t hl hu
            rw [h1]
            have := Nat.mod_lt W (Nat.two_pow_pos t)
            omega
          have hl2 : (out ++ [((i * 64 + t : Nat) : Int)]).length ≤ 16385 := by
            have h1 := congrArg List.length hI2.same
            rw [List.length_append] at h1
            have h2 := exps_length P
            omega
          have hl3 : out.length + 1 ≤ 16385 := by rw [List.length_append] at hl2; exact hl2
          have HL := Lib.hid hlen
          have HX := Lib.hid hx
          have HT := Lib.hid ht
          have HL3 := Lib.hid hl3
          have hi257 : i < 257 := by omega
          clear ht hl3 hk
          have hbase := HU.out.size
          clear hI2 hx hl2 hlen hl hu HI
          go_wp2_with fail
          refine (len64_any W _ hW).mono ?_
          rintro e w' ⟨rfl, rfl⟩
          rw [HL.out]
          have HIn : Hid (Ints (wr.alloc (.cells #[.int .i64 ((i : Int) * 64 + (t : Int))] 3)) (wr.heap.size + 1) (some ⟨wr.heap.size, 0, none⟩) 1 [((i : Int) * 64 + (t : Int))]) :=
            ⟨rfl, fun _ => ⟨wr.heap.size, 0, rfl, by omega, fun j hj => by
              obtain rfl : j = 0 := by omega
              rw [cell_of (heap_alloc_new wr _)]; rfl⟩⟩
          have HO2 := Lib.hid (HO.out.alloc (.cells #[.int .i64 ((i : Int) * 64 + (t : Int))] 3))
          have HU2 := Lib.hid (HU.out.alloc (.cells #[.int .i64 ((i : Int) * 64 + (t : Int))] 3))
          clear HU HO
          go_wp2_with (at_builtin; refine wpList_append_ints _ rfl (.tmp 21) (.tmp 26) _ rfl w.heap.size 3 i0 _ Try.underlying99 hi0 hz0 hz1 hz2 rfl _ out.length (vals out) rfl HO2.out (wr.heap.size + 1) (some ⟨wr.heap.size, 0, none⟩) 1 1 [((i : Int) * 64 + (t : Int))] rfl HIn.out (by have := HL3.out; simp only [maxLen]; omega) (by have := HL3.out; omega) (by simp; omega) ?_; intro v3 w3 hown3 hg3 _)
          go_roundw
          case rel =>
            have hs : ((i : Int) * 64 + (t : Int)) = ((i * 64 + t : Nat) : Int) := by omega
            rw [hs] at hown3
            refine ⟨out ++ [((i * 64 + t : Nat) : Int)], W ^^^ 2 ^ t, Q ^^^ 2 ^ (i * 64 + t), by omega, by rw [HX.out], ?_, HI2, ?_⟩
            · have e : (out ++ [((i * 64 + t : Nat) : Int)]).length = out.length + 1 := by simp
              have e2 : vals (out ++ [((i * 64 + t : Nat) : Int)]) = vals out ++ vals [((i * 64 + t : Nat) : Int)] := by simp [vals]
              rw [e, e2]
              exact hown3
            · exact HU2.out.grownOwn hg3 (fun k hk => (HO2.out.lt k hk).1)
          case measure =>
            rw [HX.out]
            simp [intOf]
            exact hlt
        · obtain rfl : W = 0 := by omega
          have HD := Lib.hid HI.out.done
          clear HI
          go_wp2
          go_roundw
          case rel => exact ⟨i, out, by omega, rfl, HO, HD, HU⟩
          case measure => simp [intOf]
    · obtain rfl : k = 0 := by omega
      have e1 : ((0 : Nat) : Int) - 1 = -1 := by omega
      rw [e1]
      have hout : out = exps P := by
        have := HE.out
        rw [Nat.mul_zero, Nat.pow_zero, Nat.mod_one, exps_zero, List.append_nil] at this
        exact this
      subst hout
      go_wp2
      go_ret
      exact ⟨_, rfl, HO.out, HU.out⟩
end Go.Proofs.Ytnimgkijodfjkaa

/- Walks over package poly: Of, Add, Mul, Mod. -/
namespace Go.Proofs.Ytnimgkijodfjkaa
open Go.RowKit Pm

theorem own_more {w : World} {base base' e n : Nat} {v : Value} {xs : List Value} (h : w.ownsRow base' e 1 v n xs) (hb : base ≤ base') : w.ownsRow base e 1 v n xs := by
  refine ⟨h.1, ?_⟩
  rcases h.2 with h | ⟨g, cap, cur, h1, h2, h3⟩
  · exact .inl h
  · exact .inr ⟨g, cap, cur, h1, Nat.le_trans hb h2, h3⟩
/-- a polynomial that a call hands back: new memory, holding the exponents of P -/
def PolyV (w0 w : World) (v : Value) (P : Nat) : Prop := w.ownsRow w0.heap.size 3 1 v (exps P).length (vals (exps P)) ∧ P < 2 ^ top
theorem Coef.row {w : World} {g P Q : Nat} (h : Coef w g P) : Coef (w.setRow g (wordsA Q)) g Q := setRow_heap _ _ _ _ _ _ h
theorem Coef.rowOther {w : World} {g b P : Nat} (h : Coef w b P) (hne : ¬ b = g) (cs : Array Value) : Coef (w.setRow g cs) b P := (setRow_other w g b cs hne).trans h

set_option maxRecDepth 20000 in
set_option maxHeartbeats 800000 in
theorem of_any (a : Option Addr) (len cap B : Nat) (xs : List Int) (w : World) (hr : Ints w B a len xs) (hB : B ≤ w.heap.size) (hm : len ≤ maxLen) :
    Calls Try.prog 52 #[.slice a len cap] w fun e w' => ∃ v, e = .returned v ∧ PolyV w w' v (gat xs) ∧ Upd noBlock w w' := by
  have HR := Lib.hid hr
  clear hr
  go_enter Try.func52, Try.ntmps52
  go_wp2_with fail
  refine (gather_any a len cap B xs _ HR.out hB hm).mono ?_
  rintro e w1 ⟨rfl, HU0⟩
  have HU := Lib.hid HU0
  have HC := Lib.hid (Coef.new w1)
  clear HU0
  go_wp2_with (refine wpList_store_row rfl 151 _ _ rfl w1.heap.size (wordsA (gat xs)) rfl rfl 151 (wordsA 0) HC.out (wordsA_info _) (by rw [wordsA_size, wordsA_size]) (wordsA_one _) ?_)
  have HC2 := Lib.hid (HC.out.row (Q := gat xs))
  have HU2 := Lib.hid ((HU.out.alloc (.cells Try.zeroCells151 151)).setRow (g := w1.heap.size) (.inr HU.out.size) (wordsA (gat xs)))
  refine (poly_any w1.heap.size (gat xs) _ HC2.out (gat_lt xs)).mono ?_
  rintro e w3 ⟨v, rfl, ho, hu⟩
  have HO := Lib.hid (own_more ho HU2.out.size)
  have HU3 := Lib.hid (HU2.out.trans hu)
  clear ho hu
  go_wp2_with fail
  go_ret
  exact ⟨_, rfl, ⟨HO.out, gat_lt xs⟩, HU3.out⟩

end Go.Proofs.Ytnimgkijodfjkaa

/- Walks over package poly: Mul. -/
namespace Go.Proofs.Ytnimgkijodfjkaa
open Go.RowKit Pm

theorem exps_head (P : Nat) (h0 : P ≠ 0) (h : P < 2 ^ top) : ∃ t : Nat, t ≤ 16384 ∧ 2 ^ t ≤ P ∧ P < 2 ^ (t + 1) ∧ exps P = (t : Int) :: exps (P ^^^ 2 ^ t) := by
  obtain ⟨t, h1, h2⟩ : ∃ t : Nat, 2 ^ t ≤ P ∧ P < 2 ^ (t + 1) := ⟨Nat.log2 P, Nat.log2_self_le h0, Nat.lt_log2_self⟩
  have ht : t ≤ 16384 := by
    rcases Nat.lt_or_ge 16384 t with hh | hh
    · have := Nat.pow_le_pow_right (n := 2) (by omega) (show top ≤ t by unfold top; omega)
      omega
    · exact hh
  exact ⟨t, ht, h1, h2, exps_top P t h1 h2 ht⟩
theorem exps_nil (P : Nat) (h : P < 2 ^ top) : exps P = [] ↔ P = 0 := by
  constructor
  · intro e
    rcases Nat.eq_zero_or_pos P with h0 | h0
    · exact h0
    · obtain ⟨t, _, _, _, e2⟩ := exps_head P (by omega) h
      rw [e2] at e; cases e
  · rintro rfl; exact exps_zero
theorem exps_mem (e : Int) (Q t : Nat) (h : e ∈ exps Q) (hQ : Q < 2 ^ (t + 1)) (ht : t ≤ 16384) : 0 ≤ e ∧ e ≤ t := by
  have e1 : exps Q = lst (t + 1) Q := lst_up _ _ _ hQ (by unfold top; omega)
  rw [e1] at h
  have := lst_bound (t + 1) Q e h
  omega

/-- the product: the sum of shifts -/
def cm (l : List Int) (B : Nat) : Nat := l.foldl (fun P e => P ^^^ B * 2 ^ e.toNat) 0
theorem cm_take (l : List Int) (B k : Nat) (h : k < l.length) : cm (l.take (k + 1)) B = cm (l.take k) B ^^^ B * 2 ^ (l.getD k 0).toNat := by
  rw [List.take_succ_eq_append_getElem h]
  unfold cm
  rw [List.foldl_append]
  have e : l.getD k 0 = l[k] := by rw [List.getD_eq_getElem?_getD, List.getElem?_eq_getElem h]; rfl
  rw [e]; rfl
theorem cm_lt (l : List Int) (B s n : Nat) (hB : B < 2 ^ (s + 1)) (h : ∀ e ∈ l, e.toNat + s + 1 ≤ n) : cm l B < 2 ^ n := by
  have key : ∀ (l : List Int) (P : Nat), P < 2 ^ n → (∀ e ∈ l, e.toNat + s + 1 ≤ n) → l.foldl (fun P e => P ^^^ B * 2 ^ e.toNat) P < 2 ^ n := by
    intro l
    induction l with
    | nil => intro P hP _; exact hP
    | cons e l ih =>
      intro P hP hl
      refine ih _ (Nat.xor_lt_two_pow hP ?_) (fun x hx => hl x (List.mem_cons_of_mem _ hx))
      have h1 := hl e List.mem_cons_self
      have h2 : B * 2 ^ e.toNat < 2 ^ (s + 1) * 2 ^ e.toNat := Nat.mul_lt_mul_of_pos_right hB (Nat.two_pow_pos _)
      rw [← Nat.pow_add] at h2
      exact Nat.lt_of_lt_of_le h2 (Nat.pow_le_pow_right (by omega) (by omega))
  exact key l 0 (Nat.two_pow_pos _) h

/-- a product that is not too great -/
def pmul (A B : Nat) : Nat := cm (exps A) B

set_option maxRecDepth 20000 in
set_option maxHeartbeats 1600000 in
theorem pmul_ok (a : Option Addr) (len cap B : Nat) (xs : List Int) (a' : Option Addr) (len' cap' B' : Nat) (ys : List Int) (w : World) (hr : Ints w B a len xs) (hB : B ≤ w.heap.size) (hm : len ≤ maxLen)
    (hr' : Ints w B' a' len' ys) (hB' : B' ≤ w.heap.size) (hm' : len' ≤ maxLen) (s t : Nat) (hs1 : 2 ^ s ≤ gat xs) (hs2 : gat xs < 2 ^ (s + 1)) (ht1 : 2 ^ t ≤ gat ys) (ht2 : gat ys < 2 ^ (t + 1)) (hst : s + t ≤ 16384) :
    Calls Try.prog 53 #[.slice a len cap, .slice a' len' cap'] w fun e w' => ∃ v, e = .returned (.tuple #[v, .bool true]) ∧ PolyV w w' v (pmul (gat xs) (gat ys)) ∧ Upd noBlock w w' := by
  have HR := Lib.hid hr
  have HR' := Lib.hid hr'
  have hp : pmul (gat xs) (gat ys) < 2 ^ top := cm_lt _ _ t _ ht2 (fun e he => by
    have := exps_mem e _ s he hs2 (by omega)
    unfold top; omega)
  have HP := Lib.hid hp
  have hx := exps_top (gat xs) s hs1 hs2 (by omega)
  have hy := exps_top (gat ys) t ht1 ht2 (by omega)
  have HX := Lib.hid hx
  have HY := Lib.hid hy
  have HS2 := Lib.hid hs2
  clear hr hr' hp hx hy hs1 ht1 ht2 hs2
  go_enter Try.func53, Try.ntmps53
  go_wp2_with fail
  refine (of_any a len cap B xs _ HR.out hB hm).mono ?_
  rintro e w1 ⟨v1, rfl, hv1, hu1⟩
  have HU1 := Lib.hid hu1
  have HV1 := Lib.hid hv1
  clear hu1 hv1
  go_wp2_with fail
  refine (of_any a' len' cap' B' ys _ (HR'.out.grow HU1.out hB') (Nat.le_trans hB' HU1.out.size) hm').mono ?_
  rintro e w2 ⟨v2, rfl, hv2, hu2⟩
  have HU2 := Lib.hid (HU1.out.trans hu2)
  have hsz12 := hu2.size
  obtain ⟨p1, c1, rfl, hi1, hm1, hb1⟩ := own_ints HV1.out.1
  obtain ⟨p2, c2, rfl, hi2, hm2, hb2⟩ := own_ints hv2.1
  have hi1' := hi1.grow hu2 (Nat.le_refl _)
  obtain ⟨g1, o1, rfl, hg1, hc1⟩ := hi1'.cell (by rw [HX.out]; simp)
  obtain ⟨g2, o2, rfl, hg2, hc2⟩ := hi2.cell (by rw [HY.out]; simp)
  have d1 : w2.cell? ⟨g1, o1, none⟩ = some (.int .i64 (s : Int)) := by have := hc1 0 (by rw [HX.out]; simp); rw [HX.out] at this; exact this
  have d2 : w2.cell? ⟨g2, o2, none⟩ = some (.int .i64 (t : Int)) := by have := hc2 0 (by rw [HY.out]; simp); rw [HY.out] at this; exact this
  have hl1 : 0 < (exps (gat xs)).length := by rw [HX.out]; simp
  have hl2 : 0 < (exps (gat ys)).length := by rw [HY.out]; simp
  have HI1 := Lib.hid hi1'
  have HI2 := Lib.hid hi2
  clear hi1 hi1' hi2 hb1 hb2 hc1 hc2 hu2 hv2 HV1
  generalize hn1 : (exps (gat xs)).length = n1 at *
  generalize hn2 : (exps (gat ys)).length = n2 at *
  have HN1 := Lib.hid hn1
  have HN2 := Lib.hid hn2
  clear hn1 hn2
  have t1 : ((n1 : Int) == 0) = false := beq_eq_false_iff_ne.2 (by omega)
  have t2 : ((n2 : Int) == 0) = false := beq_eq_false_iff_ne.2 (by omega)
  have t3 : decide ((16384 : Int) < (s : Int) + (t : Int)) = false := by simp; omega
  have t4 : IntKind.i64.wrap ((s : Int) + (t : Int)) = (s : Int) + (t : Int) := IntWalk.i64_in _ (by omega)
  have HST := Lib.hid hst
  clear hst
  go_wp2_with fail
  go_quiet (fail)
  have HC : Hid (Coef ((w2.alloc (.cells Try.zeroCells151 151)).drewN nq) w2.heap.size 0) := Coef.new w2
  have HU3 : Hid (Upd noBlock w ((w2.alloc (.cells Try.zeroCells151 151)).drewN nq)) := (HU2.out.alloc _).drewN nq
  have HI3 : Hid (Ints ((w2.alloc (.cells Try.zeroCells151 151)).drewN nq) w1.heap.size (some ⟨g1, o1, none⟩) n1 (exps (gat xs))) := HI1.out.grow (((Upd.refl noBlock w2).alloc _).drewN nq) (by omega)
  have HI4 : Hid (Ints ((w2.alloc (.cells Try.zeroCells151 151)).drewN nq) w2.heap.size (some ⟨g2, o2, none⟩) n2 (exps (gat ys))) := HI2.out.grow (((Upd.refl noBlock w2).alloc _).drewN nq) (Nat.le_refl _)
  have hsz2 := HU2.out.size
  clear HI1 HI2 d1 d2
  go_wp2_with fail
  refine (gather_any _ n2 c2 w2.heap.size (exps (gat ys)) _ HI4.out (by simp) hm2).mono ?_
  rintro e w4 ⟨rfl, hu4⟩
  rw [gat_exps _ (gat_lt ys)]
  have hsz4 := hu4.size
  have hsz5 : w2.heap.size + 1 ≤ w4.heap.size := by simpa using hsz4
  have HC4 := Lib.hid ((HC.out.upd hu4 (fun h => h)).alloc (.cells Try.zeroCells151 151))
  have HD4 := Lib.hid (Coef.new w4)
  have HU4 := Lib.hid ((HU3.out.trans hu4).alloc (.cells Try.zeroCells151 151))
  have HI5 := Lib.hid ((HI3.out.grow hu4 (by simp; omega)).grow ((Upd.refl noBlock w4).alloc (.cells Try.zeroCells151 151)) (by omega))
  clear hu4 hsz4 HI4 HI3 HC HU3
  go_wp2_with (refine wpList_store_row rfl 151 (.tmp 7) (.tmp 31) rfl w4.heap.size (wordsA (gat ys)) rfl rfl 151 (wordsA 0) HD4.out (wordsA_info _) (by rw [wordsA_size, wordsA_size]) (wordsA_one _) ?_)
  have HC5 := Lib.hid (HC4.out.rowOther (g := w4.heap.size) (by omega) (wordsA (gat ys)))
  have HD5 := Lib.hid (HD4.out.row (Q := gat ys))
  have HI6 := Lib.hid (HI5.out.keep (w' := (w4.alloc (.cells Try.zeroCells151 151)).setRow w4.heap.size (wordsA (gat ys))) (fun g _ hg => setRow_other _ _ _ _ (by omega)))
  have HU5 := Lib.hid (HU4.out.setRow (g := w4.heap.size) (.inr (by omega)) (wordsA (gat ys)))
  have hmem : ∀ k, k < n1 → 0 ≤ (exps (gat xs)).getD k 0 ∧ (exps (gat xs)).getD k 0 ≤ 16384 := fun k hk => by
    have hl : k < (exps (gat xs)).length := by rw [HN1.out]; exact hk
    have e : (exps (gat xs)).getD k 0 = (exps (gat xs))[k] := by rw [List.getD_eq_getElem?_getD, List.getElem?_eq_getElem hl]; rfl
    have h := exps_mem _ (gat xs) s (List.getElem_mem hl) HS2.out (by have := HST.out; omega)
    rw [e]
    have := HST.out
    omega
  have HM := Lib.hid hmem
  have hn1 : n1 ≤ 9223372036854775807 := by unfold maxLen at hm1; omega
  clear hmem HC4 HD4 HI5 HU4 hm1 hm2 HU2 t3 t4
  go_loopw [34] (fun i wr => ∃ k : Nat, k ≤ n1 ∧ i = .int .i64 (k : Int) ∧ Hid (Coef wr w2.heap.size (cm ((exps (gat xs)).take k) (gat ys))) ∧ Hid (Coef wr w4.heap.size (gat ys)) ∧ Hid (Ints wr w1.heap.size (some ⟨g1, o1, none⟩) n1 (exps (gat xs))) ∧ Hid (Upd noBlock w wr)) (fun i _ => n1 - (intOf i).toNat)
  case atStart => exact ⟨0, Nat.zero_le _, rfl, HC5, HD5, HI6, HU5⟩
  case round =>
    clear HC5 HD5 HI6 HU5
    obtain ⟨k, hk, rfl, HC, HD, HI, HU⟩ := hrel
    by_cases h0 : k < n1
    · obtain ⟨g', o', hgo, hg', hcell⟩ := HI.out.cell (by omega)
      obtain ⟨rfl, rfl⟩ : g1 = g' ∧ o1 = o' := by simpa using hgo
      have c1 := hcell k h0
      have hm := HM.out k h0
      have hstep := cm_take (exps (gat xs)) (gat ys) k (by rw [HN1.out]; exact h0)
      generalize (exps (gat xs)).getD k 0 = z at c1 hm hstep
      obtain ⟨m, rfl⟩ := Int.eq_ofNat_of_zero_le hm.1
      have HM16 : Hid (m ≤ 16384) := by have := hm.2; show m ≤ 16384; omega
      rw [Int.toNat_natCast] at hstep
      have HS := Lib.hid hstep
      clear hstep hm hcell hgo
      go_wp2_with fail
      refine (add_any w2.heap.size w4.heap.size _ _ m _ HC.out HD.out (by omega) HM16.out).mono ?_
      rintro e w5 ⟨rfl, hc, hd, hu⟩
      have HC5 : Hid (Coef w5 w2.heap.size (cm ((exps (gat xs)).take (k + 1)) (gat ys))) := by rw [HS.out]; exact hc
      have HD5 := Lib.hid hd
      have HI5 := Lib.hid (HI.out.upd hu (by have := HC.out.lt; omega) (fun g hg hgB e => by have e' : g = w2.heap.size := e; omega))
      have HU5 := Lib.hid (HU.out.step hu (fun i hi e => by have e' : i = w2.heap.size := e; omega))
      clear hc hd hu
      go_wp2_with fail
      go_roundw
      case rel => exact ⟨k + 1, by omega, by go_num, HC5, HD5, HI5, HU5⟩
      case measure => simp [intOf]; omega
    · obtain rfl : k = n1 := by omega
      have e : cm ((exps (gat xs)).take k) (gat ys) = pmul (gat xs) (gat ys) := by
        rw [List.take_of_length_le (by have := HN1.out; omega)]; rfl
      rw [e] at HC
      clear e HI
      go_wp2_with fail
      refine (poly_any w2.heap.size _ _ HC.out HP.out).mono ?_
      rintro e w5 ⟨v, rfl, ho, hu⟩
      have HO := Lib.hid (own_more ho HU.out.size)
      have HU5 := Lib.hid (HU.out.trans hu)
      clear ho hu
      go_wp2_with fail
      go_ret2
      exact ⟨_, rfl, ⟨HO.out, HP.out⟩, HU5.out⟩
end Go.Proofs.Ytnimgkijodfjkaa

/- Walks over package poly: Mul where nothing or too much comes out; Mod. -/
namespace Go.Proofs.Ytnimgkijodfjkaa
open Go.RowKit Pm

set_option maxRecDepth 20000 in
set_option maxHeartbeats 800000 in
theorem pmul_zero (a : Option Addr) (len cap B : Nat) (xs : List Int) (a' : Option Addr) (len' cap' B' : Nat) (ys : List Int) (w : World) (hr : Ints w B a len xs) (hB : B ≤ w.heap.size) (hm : len ≤ maxLen)
    (hr' : Ints w B' a' len' ys) (hB' : B' ≤ w.heap.size) (hm' : len' ≤ maxLen) (hz : gat xs = 0 ∨ gat ys = 0) :
    Calls Try.prog 53 #[.slice a len cap, .slice a' len' cap'] w fun e w' => e = .returned (.tuple #[.slice none 0 0, .bool true]) ∧ Upd noBlock w w' := by
  have HR := Lib.hid hr
  have HR' := Lib.hid hr'
  clear hr hr'
  by_cases hx : gat xs = 0
  · have hl : (exps (gat xs)).length = 0 := by rw [hx, exps_zero]; rfl
    have HL := Lib.hid hl
    clear hx hl hz
    go_enter Try.func53, Try.ntmps53
    go_wp2_with fail
    refine (of_any a len cap B xs _ HR.out hB hm).mono ?_
    rintro e w1 ⟨v1, rfl, hv1, hu1⟩
    have HU1 := Lib.hid hu1
    obtain ⟨p1, c1, rfl, _, _, _⟩ := own_ints hv1.1
    clear hu1 hv1
    rw [HL.out]
    go_wp2_with fail
    refine (of_any a' len' cap' B' ys _ (HR'.out.grow HU1.out hB') (Nat.le_trans hB' HU1.out.size) hm').mono ?_
    rintro e w2 ⟨v2, rfl, hv2, hu2⟩
    have HU2 := Lib.hid (HU1.out.trans hu2)
    clear hu2 hv2
    go_wp2_with fail
    go_ret2
    exact ⟨rfl, HU2.out⟩
  · have hy : gat ys = 0 := by omega
    have hl : (exps (gat ys)).length = 0 := by rw [hy, exps_zero]; rfl
    have h1 : (((exps (gat xs)).length : Int) == 0) = false := by
      obtain ⟨t, _, _, _, e⟩ := exps_head _ hx (gat_lt xs)
      rw [e]; exact beq_eq_false_iff_ne.2 (by simp; omega)
    have HL := Lib.hid hl
    clear hx hl hz hy
    go_enter Try.func53, Try.ntmps53
    go_wp2_with fail
    refine (of_any a len cap B xs _ HR.out hB hm).mono ?_
    rintro e w1 ⟨v1, rfl, hv1, hu1⟩
    have HU1 := Lib.hid hu1
    obtain ⟨p1, c1, rfl, _, _, _⟩ := own_ints hv1.1
    clear hu1 hv1
    go_wp2_with fail
    refine (of_any a' len' cap' B' ys _ (HR'.out.grow HU1.out hB') (Nat.le_trans hB' HU1.out.size) hm').mono ?_
    rintro e w2 ⟨v2, rfl, hv2, hu2⟩
    have HU2 := Lib.hid (HU1.out.trans hu2)
    obtain ⟨p2, c2, rfl, _, _, _⟩ := own_ints hv2.1
    clear hu2 hv2
    rw [HL.out]
    go_wp2_with fail
    go_ret2
    exact ⟨rfl, HU2.out⟩

set_option maxRecDepth 20000 in
set_option maxHeartbeats 800000 in
theorem pmul_big (a : Option Addr) (len cap B : Nat) (xs : List Int) (a' : Option Addr) (len' cap' B' : Nat) (ys : List Int) (w : World) (hr : Ints w B a len xs) (hB : B ≤ w.heap.size) (hm : len ≤ maxLen)
    (hr' : Ints w B' a' len' ys) (hB' : B' ≤ w.heap.size) (hm' : len' ≤ maxLen) (s t : Nat) (hs1 : 2 ^ s ≤ gat xs) (hs2 : gat xs < 2 ^ (s + 1)) (ht1 : 2 ^ t ≤ gat ys) (ht2 : gat ys < 2 ^ (t + 1)) (hs : s ≤ 16384) (ht : t ≤ 16384) (hst : 16384 < s + t) :
    Calls Try.prog 53 #[.slice a len cap, .slice a' len' cap'] w fun e w' => e = .returned (.tuple #[.slice none 0 0, .bool false]) ∧ Upd noBlock w w' := by
  have HR := Lib.hid hr
  have HR' := Lib.hid hr'
  have HX := Lib.hid (exps_top (gat xs) s hs1 hs2 hs)
  have HY := Lib.hid (exps_top (gat ys) t ht1 ht2 ht)
  have t3 : decide ((16384 : Int) < (s : Int) + (t : Int)) = true := by simp; omega
  have t4 : IntKind.i64.wrap ((s : Int) + (t : Int)) = (s : Int) + (t : Int) := IntWalk.i64_in _ (by omega)
  clear hr hr' hs1 ht1 ht2 hs2 hst hs ht
  go_enter Try.func53, Try.ntmps53
  go_wp2_with fail
  refine (of_any a len cap B xs _ HR.out hB hm).mono ?_
  rintro e w1 ⟨v1, rfl, hv1, hu1⟩
  have HU1 := Lib.hid hu1
  have HV1 := Lib.hid hv1
  clear hu1 hv1
  go_wp2_with fail
  refine (of_any a' len' cap' B' ys _ (HR'.out.grow HU1.out hB') (Nat.le_trans hB' HU1.out.size) hm').mono ?_
  rintro e w2 ⟨v2, rfl, hv2, hu2⟩
  have HU2 := Lib.hid (HU1.out.trans hu2)
  obtain ⟨p1, c1, rfl, hi1, hm1, hb1⟩ := own_ints HV1.out.1
  obtain ⟨p2, c2, rfl, hi2, hm2, hb2⟩ := own_ints hv2.1
  have hi1' := hi1.grow hu2 (Nat.le_refl _)
  obtain ⟨g1, o1, rfl, hg1, hc1⟩ := hi1'.cell (by rw [HX.out]; simp)
  obtain ⟨g2, o2, rfl, hg2, hc2⟩ := hi2.cell (by rw [HY.out]; simp)
  have d1 : w2.cell? ⟨g1, o1, none⟩ = some (.int .i64 (s : Int)) := by have := hc1 0 (by rw [HX.out]; simp); rw [HX.out] at this; exact this
  have d2 : w2.cell? ⟨g2, o2, none⟩ = some (.int .i64 (t : Int)) := by have := hc2 0 (by rw [HY.out]; simp); rw [HY.out] at this; exact this
  have hl1 : 0 < (exps (gat xs)).length := by rw [HX.out]; simp
  have hl2 : 0 < (exps (gat ys)).length := by rw [HY.out]; simp
  clear hi1 hi1' hi2 hb1 hb2 hc1 hc2 hu2 hv2 HV1 HX HY
  generalize (exps (gat xs)).length = n1 at *
  generalize (exps (gat ys)).length = n2 at *
  have t1 : ((n1 : Int) == 0) = false := beq_eq_false_iff_ne.2 (by omega)
  have t2 : ((n2 : Int) == 0) = false := beq_eq_false_iff_ne.2 (by omega)
  clear hm1 hm2
  go_wp2_with fail
  go_quiet (fail)
  go_wp2_with fail
  go_ret2
  exact ⟨rfl, HU2.out.drewN _⟩

/-- the remainder, from the greatest exponent on: n steps -/
def rm (D d : Nat) : Nat → Nat → Nat
  | 0, R => R
  | n + 1, R => rm D d n (if R.testBit (d + n) then R ^^^ D * 2 ^ n else R)
def pmod (A D d : Nat) : Nat := rm D d (16385 - d) A
theorem rm_lt (D d n R : Nat) (hD : D < 2 ^ (d + 1)) (hn : d + n ≤ 16385) (hR : R < 2 ^ top) : rm D d n R < 2 ^ top := by
  induction n generalizing R with
  | zero => exact hR
  | succ n ih =>
    refine ih _ (by omega) ?_
    split
    · refine Nat.xor_lt_two_pow hR ?_
      have h2 : D * 2 ^ n < 2 ^ (d + 1) * 2 ^ n := Nat.mul_lt_mul_of_pos_right hD (Nat.two_pow_pos _)
      rw [← Nat.pow_add] at h2
      exact Nat.lt_of_lt_of_le h2 (Nat.pow_le_pow_right (by omega) (by unfold top; omega))
    · exact hR

theorem pmod_lt (A D d : Nat) (hD : D < 2 ^ (d + 1)) (hd : d ≤ 16384) (hA : A < 2 ^ top) : pmod A D d < 2 ^ top := rm_lt _ _ _ _ hD (by omega) hA
theorem pmod_def (A D d : Nat) : rm D d (16385 - d) A = pmod A D d := rfl
theorem rm_zero (D d R : Nat) : rm D d 0 R = R := rfl
theorem rm_succ (D d n R : Nat) : rm D d (n + 1) R = rm D d n (if R.testBit (d + n) then R ^^^ D * 2 ^ n else R) := rfl
attribute [local irreducible] Pm.exps rm pmod

end Go.Proofs.Ytnimgkijodfjkaa

/- append of a slice of int onto an empty slice of a named type; copied; Same. -/
namespace Go.Proofs.Ytnimgkijodfjkaa
open Go.RowKit Pm

set_option maxRecDepth 20000 in
set_option maxHeartbeats 800000 in
/-- two lists that read alike are told alike -/
theorem same_yes (a : Option Addr) (n cap B : Nat) (a' : Option Addr) (cap' B' : Nat) (xs : List Int) (w : World) (hr : Ints w B a n xs) (hr' : Ints w B' a' n xs) (hm : n ≤ maxLen) :
    Calls Try.prog 44 #[.slice a n cap, .slice a' n cap'] w fun e w' => e = .returned (.bool true) ∧ Upd noBlock w w' := by
  have hcap : n ≤ 9223372036854775807 := by unfold maxLen at hm; omega
  have HR := Lib.hid hr
  have HR' := Lib.hid hr'
  clear hr hr' hm
  go_enter Try.func44, Try.ntmps44
  go_wp2
  go_loopw [5] (fun i wr => ∃ k : Nat, k ≤ n ∧ i = .int .i64 (k : Int) ∧ Hid (Ints wr B a n xs) ∧ Hid (Ints wr B' a' n xs) ∧ Hid (Upd noBlock w wr)) (fun i _ => n - (intOf i).toNat)
  case atStart => exact ⟨0, Nat.zero_le _, rfl, HR, HR', Upd.refl _ _⟩
  case round =>
    clear HR HR'
    obtain ⟨k, hk, rfl, HR, HS, HU⟩ := hrel
    by_cases h0 : k < n
    · obtain ⟨g, off, rfl, _, hc1⟩ := HR.out.cell (by omega)
      obtain ⟨g', off', rfl, _, hc2⟩ := HS.out.cell (by omega)
      have c1 := hc1 k h0
      have c2 := hc2 k h0
      generalize xs.getD k 0 = z at c1 c2
      clear hc1 hc2
      go_wp2
      go_quiet (fail)
      go_wp2
      go_roundw
      case rel => exact ⟨k + 1, by omega, by go_num, HR, HS, HU.out.drewN _⟩
      case measure => simp [intOf]; omega
    · obtain rfl : k = n := by omega
      go_wp2
      go_ret
      exact ⟨rfl, HU.out⟩

section
variable {P : Program} (w : World)
theorem run_copy_ints (t tx ty e : TypeId) (i : TypeInfo) (z : Value) (ht : P.underlying t = some (.slice e)) (htx : P.underlying tx = some (.slice e)) (hi : P.info? e = some i) (hz : i.zero = some z)
    (hsize : i.size = 1) (hby : i.bytes = 8) (hzs : z.cells.size = 1) (base g : Nat) (hbase : base ≤ g) (hg : w.heap[g]? = some (.cells #[] e (0, 0)))
    (B : Nat) (A : Option Addr) (m c : Nat) (xs : List Int) (hr : Ints w B A m xs) (hm : m ≤ maxLen) (hbytes : m * 8 ≤ 140737488355328) :
    ∃ v' w', (Builtin.append_ #[t, tx] ty #[.slice (some ⟨g, 0, none⟩) 0 0, .slice A m c]).run P w = .ok v' w' ∧ w'.ownsRow base e 1 v' m (vals xs) ∧ Upd noBlock w w' := by
  have hl : (vals xs).length = m * i.size := by rw [vals, List.length_map, hr.1, hsize, Nat.mul_one]
  have hgl := lt_of_block hg
  rcases Nat.eq_zero_or_pos m with h0 | h0
  · subst h0
    have hn : xs = [] := List.eq_nil_of_length_eq_zero hr.1
    subst hn
    refine ⟨.slice (some ⟨g, 0, none⟩) 0 0, w, ?_, ⟨rfl, .inr ⟨g, 0, #[], rfl, hbase, hg, Nat.le_refl _, Nat.zero_le _, rfl, rfl⟩⟩, Upd.refl _ _⟩
    have hs : Src P i.size tx (.slice A 0 c) 0 [] w := by
      rcases A with _ | ad
      · exact Src.ofNil w htx c
      · exact Src.ofSlice w htx ad 0 c [] (by simp) (fun j u hu => by simp at hu) (fun u hu => by cases hu)
    have := run_append_room_src (P := P) w t tx ty e i ht hi g 0 0 0 (.slice A 0 c) 0 [] hs (Nat.le_refl _) (fun j hj => absurd hj (by simp)) (fun j hj => absurd hj (by simp))
    simpa [World.setCells] using this
  · obtain ⟨g', off, rfl, hgB, hc⟩ := hr.2 h0
    have hs : Src P i.size tx (.slice (some ⟨g', off, none⟩) m c) m (vals xs) w := Src.ofSlice w htx ⟨g', off, none⟩ m c (vals xs) hl (fun j u hu => by
      have hj : j < m := by
        have := (List.getElem?_eq_some_iff.1 hu).1
        rw [hl, hsize] at this; omega
      have h2 := hc j hj
      have e1 : u = .int .i64 (xs.getD j 0) := by
        rw [vals, List.getElem?_map] at hu
        rw [List.getD_eq_getElem?_getD]
        cases hx : xs[j]? with
        | none => rw [hx] at hu; cases hu
        | some y => rw [hx] at hu; simpa using hu.symm
      rw [e1, ← h2]
      by_cases e0 : j = 0
      · subst e0; simp [Addr.add]
      · simp [Addr.add, e0]) (vals_one xs)
    have hnext : Builtin.nextslicecap (0 + m) 0 = m := by
      unfold Builtin.nextslicecap
      simp
      omega
    have hcap := grownCap_ge w (0 + m) 0 e
    have hcap2 := grownCap_le_maxLen w (0 + m) 0 e (by omega)
    have hrun := run_append_grow_src (P := P) w t tx ty e i z ht hi hz (some ⟨g, 0, none⟩) 0 0 [] (by simpa using run_firstCells_some w.drew i.size 0 ⟨g, 0, none⟩ 0 0 [] (by simp) (fun j u hu => by simp at hu)) (.slice (some ⟨g', off, none⟩) m c) m (vals xs) hs (by omega) (by unfold maxLen at hm; omega) (by rw [hnext, hby]; omega)
    simp only [Nat.zero_add, List.nil_append] at hrun hcap hcap2
    generalize grownCap w m 0 e = cap at hrun hcap hcap2
    refine ⟨_, _, hrun, ⟨by rw [hl, hsize], .inr ⟨w.heap.size, cap, _, rfl, by omega, heap_alloc_new w.drew _, hcap, hcap2, ?_, ?_⟩⟩, ((Upd.refl noBlock w).drew).alloc _⟩
    · rw [Array.size_append, size_zeroCells, hzs]
      simp only [List.size_toArray, hl, hsize]
      omega
    · rw [Array.toList_append, List.take_append_of_le_length (by simp [hl, hsize])]
      exact List.take_of_length_le (by simp [hl, hsize])

theorem wpList_copy_ints {ops : Array Oper} {rest : List Oper} {o : Oper} {a : Act} {Q : Exit → Act → World → Prop} (hgd : o.guard = none) (s x : Operand) (t tx : TypeId)
    (ho : o.op = .call { callee := .builtin .append, args := #[s, x], argTypes := #[t, tx] })
    (e : TypeId) (i : TypeInfo) (z : Value) (ht : P.underlying t = some (.slice e)) (htx : P.underlying tx = some (.slice e)) (hi : P.info? e = some i) (hz : i.zero = some z)
    (hsize : i.size = 1) (hby : i.bytes = 8) (hzs : z.cells.size = 1) (base g : Nat) (hbase : base ≤ g) (hg : w.heap[g]? = some (.cells #[] e (0, 0))) (hs : a.eval s = .slice (some ⟨g, 0, none⟩) 0 0)
    (B : Nat) (A : Option Addr) (m c : Nat) (xs : List Int) (hx : a.eval x = .slice A m c) (hr : Ints w B A m xs) (hm : m ≤ maxLen) (hbytes : m * 8 ≤ 140737488355328)
    (h : ∀ v' w', w'.ownsRow base e 1 v' m (vals xs) → Upd noBlock w w' → wpList P ops Q rest (a.put o.dst v') w') : wpList P ops Q (o :: rest) a w :=
  wpList_plain hgd fun _ hK => by
    obtain ⟨v', w', hrun, h2, h3⟩ := run_copy_ints (P := P) w t tx o.type e i z ht htx hi hz hsize hby hzs base g hbase hg B A m c xs hr hm hbytes
    unfold Oper.wp execOp
    simp only [ho, resolve, invoke, builtin, Sem.run_bind, Sem.run_pure, Result.andThen_ok, List.map_toArray, List.map_cons, List.map_nil, hs, hx, hrun]
    exact hK _ _ (h v' w' h2 h3)
end

end Go.Proofs.Ytnimgkijodfjkaa

/- The laws of layer 2: what they all begin with. -/
namespace Go.Proofs.Ytnimgkijodfjkaa
open Go.RowKit Pm

theorem exps3 : exps 3 = [1, 0] := by
  have h1 := exps_top 3 1 (by decide) (by decide) (by omega)
  have h2 := exps_top 1 0 (by decide) (by decide) (by omega)
  have e1 : 3 ^^^ 2 ^ 1 = 1 := by decide
  have e2 : 1 ^^^ 2 ^ 0 = 0 := by decide
  rw [e1] at h1
  rw [e2, exps_zero] at h2
  rw [h1, h2]; rfl
theorem exps5 : exps 5 = [2, 0] := by
  have h1 := exps_top 5 2 (by decide) (by decide) (by omega)
  have h2 := exps_top 1 0 (by decide) (by decide) (by omega)
  have e1 : 5 ^^^ 2 ^ 2 = 1 := by decide
  have e2 : 1 ^^^ 2 ^ 0 = 0 := by decide
  rw [e1] at h1
  rw [e2, exps_zero] at h2
  rw [h1, h2]; rfl
theorem gat10 : gat [1, 0] = 3 := by decide
theorem pmul33 : pmul 3 3 = 5 := by
  unfold pmul
  rw [exps3]; decide

/-- a new list of two -/
theorem ints2 (w : World) (x y : Int) : Ints (w.alloc (.cells #[.int .i64 x, .int .i64 y] 3)) (w.heap.size + 1) (some ⟨w.heap.size, 0, none⟩) 2 [x, y] :=
  ⟨rfl, fun _ => ⟨w.heap.size, 0, rfl, by omega, fun i hi => by
    rw [cell_of (heap_alloc_new w _)]
    have : i = 0 ∨ i = 1 := by omega
    rcases this with rfl | rfl <;> rfl⟩⟩

end Go.Proofs.Ytnimgkijodfjkaa

/- Squares and degrees of products over two numbers. No Go in sight. -/
namespace Go.Proofs.Ytnimgkijodfjkaa
open Pm

theorem xor_mul_pow (A B n : Nat) : (A ^^^ B) * 2 ^ n = A * 2 ^ n ^^^ B * 2 ^ n := by
  apply Nat.eq_of_testBit_eq
  intro i
  rw [Nat.testBit_xor, Nat.testBit_mul_two_pow, Nat.testBit_mul_two_pow, Nat.testBit_mul_two_pow, Nat.testBit_xor]
  cases decide (n ≤ i) <;> simp
theorem cm_cons (e : Int) (l : List Int) (B : Nat) : cm (e :: l) B = B * 2 ^ e.toNat ^^^ cm l B := by
  have key : ∀ (l : List Int) (P : Nat), l.foldl (fun P e => P ^^^ B * 2 ^ e.toNat) P = P ^^^ l.foldl (fun P e => P ^^^ B * 2 ^ e.toNat) 0 := by
    intro l
    induction l with
    | nil => intro P; simp
    | cons e l ih => intro P; simp only [List.foldl_cons]; rw [ih, ih (0 ^^^ _), Nat.zero_xor, Nat.xor_assoc]
  unfold cm
  rw [List.foldl_cons, key, Nat.zero_xor]
theorem cm_xor (l : List Int) (A B : Nat) : cm l (A ^^^ B) = cm l A ^^^ cm l B := by
  induction l with
  | nil => simp [cm]
  | cons e l ih =>
    rw [cm_cons, cm_cons, cm_cons, ih, xor_mul_pow]
    generalize A * 2 ^ e.toNat = a; generalize B * 2 ^ e.toNat = b; generalize cm l A = c; generalize cm l B = d
    rw [Nat.xor_assoc, Nat.xor_assoc, ← Nat.xor_assoc b, Nat.xor_comm b c, Nat.xor_assoc c]
/-- exponents that a polynomial can have -/
def Okl (l : List Int) : Prop := ∀ e ∈ l, 0 ≤ e ∧ e ≤ 16384
theorem tog_ok (e : Int) (h : 0 ≤ e ∧ e ≤ 16384) : tog e = 2 ^ e.toNat := by unfold tog; rw [if_pos h]
theorem cm_pow (l : List Int) (n : Nat) (h : Okl l) : cm l (2 ^ n) = gat l * 2 ^ n := by
  induction l with
  | nil => simp [cm, gat]
  | cons e l ih =>
    rw [cm_cons, gat_cons, ih (fun x hx => h x (List.mem_cons_of_mem _ hx)), xor_mul_pow, tog_ok e (h e List.mem_cons_self), Nat.mul_comm]
/-- exponents doubled -/
def dbls (l : List Int) : List Int := l.map (2 * ·)
theorem cm_square (l : List Int) (h : Okl l) (h2 : Okl (dbls l)) : cm l (gat l) = gat (dbls l) := by
  induction l with
  | nil => rfl
  | cons e l ih =>
    have h' : Okl l := fun x hx => h x (List.mem_cons_of_mem _ hx)
    have h2' : Okl (dbls l) := fun x hx => h2 x (List.mem_cons_of_mem _ hx)
    have he := h e List.mem_cons_self
    have e2 : tog (2 * e) = 2 ^ e.toNat * 2 ^ e.toNat := by
      rw [tog_ok _ (h2 (2 * e) (by simp [dbls])), ← Nat.pow_add]
      congr 1; omega
    rw [cm_cons, gat_cons, cm_xor, ih h' h2', tog_ok e he, cm_pow l _ h', xor_mul_pow]
    show _ = gat ((2 * e) :: dbls l)
    rw [gat_cons, e2]
    generalize 2 ^ e.toNat * 2 ^ e.toNat = a; generalize gat l * 2 ^ e.toNat = b; generalize gat (dbls l) = c
    rw [Nat.xor_assoc, ← Nat.xor_assoc b, Nat.xor_self, Nat.zero_xor]
theorem exps_ok (P : Nat) : Okl (exps P) := fun e he => by
  have := lst_bound top P e he
  unfold top at this; omega
/-- falling -/
theorem lst_fall (n P : Nat) : (lst n P).Pairwise (fun a b => b < a) := by
  induction n with
  | zero => exact List.Pairwise.nil
  | succ n ih =>
    unfold lst
    split
    · exact List.Pairwise.cons (fun e he => (lst_bound n P e he).2) ih
    · exact ih
theorem exps_fall (P : Nat) : (exps P).Pairwise (fun a b => b < a) := lst_fall top P
theorem gat_lt_of (l : List Int) (n : Nat) (h : ∀ e ∈ l, 0 ≤ e ∧ e < n) (ho : Okl l) : gat l < 2 ^ n := by
  induction l with
  | nil => simp [gat]; exact Nat.two_pow_pos n
  | cons e l ih =>
    rw [gat_cons, tog_ok e (ho e List.mem_cons_self)]
    refine Nat.xor_lt_two_pow (Nat.pow_lt_pow_right (by omega) ?_) (ih (fun x hx => h x (List.mem_cons_of_mem _ hx)) (fun x hx => ho x (List.mem_cons_of_mem _ hx)))
    have := h e List.mem_cons_self; omega
theorem top_xor (t G : Nat) (h : G < 2 ^ t) : 2 ^ t ≤ 2 ^ t ^^^ G ∧ 2 ^ t ^^^ G < 2 ^ (t + 1) ∧ (2 ^ t ^^^ G) ^^^ 2 ^ t = G := by
  have e : 2 ^ t ^^^ G = 2 ^ t + G := by
    apply Nat.eq_of_testBit_eq
    intro i
    have := Nat.testBit_two_pow_mul_add (a := 1) (b := G) (i := t) h i
    rw [Nat.mul_one] at this
    rw [this, Nat.testBit_xor, Nat.testBit_two_pow]
    rcases Nat.lt_trichotomy i t with hi | hi | hi
    · have f : decide (t = i) = false := by simp; omega
      rw [f, if_pos hi]; simp
    · subst hi
      rw [if_neg (by omega), Nat.testBit_lt_two_pow h]; simp
    · have f : decide (t = i) = false := by simp; omega
      have g : G.testBit i = false := Nat.testBit_lt_two_pow (Nat.lt_of_lt_of_le h (Nat.pow_le_pow_right (by omega) (by omega)))
      rw [f, g, if_neg (by omega)]
      have : Nat.testBit 1 (i - t) = false := Nat.testBit_lt_two_pow (Nat.lt_of_lt_of_le (by decide : 1 < 2 ^ 1) (Nat.pow_le_pow_right (by omega) (by omega)))
      rw [this]; rfl
  refine ⟨by omega, by rw [Nat.pow_succ]; omega, ?_⟩
  rw [Nat.xor_comm (2 ^ t) G, Nat.xor_assoc, Nat.xor_self, Nat.xor_zero]
theorem exps_gat (l : List Int) (ho : Okl l) (hf : l.Pairwise (fun a b => b < a)) : exps (gat l) = l := by
  induction l with
  | nil => exact exps_zero
  | cons e l ih =>
    have he := ho e List.mem_cons_self
    have ho' : Okl l := fun x hx => ho x (List.mem_cons_of_mem _ hx)
    obtain ⟨hlt, hf'⟩ := List.pairwise_cons.1 hf
    obtain ⟨n, rfl⟩ := Int.eq_ofNat_of_zero_le he.1
    have hG : gat l < 2 ^ n := gat_lt_of l n (fun x hx => ⟨(ho' x hx).1, hlt x hx⟩) ho'
    obtain ⟨h1, h2, h3⟩ := top_xor n (gat l) hG
    rw [gat_cons, tog_ok _ he, Int.toNat_natCast, exps_top _ n h1 h2 (by omega), h3, ih ho' hf']
/-- the square has its exponents doubled -/
theorem exps_square (X s : Nat) (h2 : X < 2 ^ (s + 1)) (hs : s ≤ 8192) (hX : X < 2 ^ top) : exps (pmul X X) = dbls (exps X) := by
  have ho := exps_ok X
  have ho2 : Okl (dbls (exps X)) := fun x hx => by
    obtain ⟨e, he, rfl⟩ := List.mem_map.1 hx
    have := exps_mem e X s he h2 (by omega)
    omega
  have hp : pmul X X = gat (dbls (exps X)) := by
    have h := cm_square (exps X) ho ho2
    rw [gat_exps X hX] at h
    exact h
  rw [hp]
  refine exps_gat _ ho2 ?_
  unfold dbls
  rw [List.pairwise_map]
  exact (exps_fall X).imp (fun h => by omega)
/-- a product's degree is the sum of the degrees -/
theorem pmul_deg (X Y s t : Nat) (h1 : 2 ^ s ≤ X) (h2 : X < 2 ^ (s + 1)) (h3 : 2 ^ t ≤ Y) (h4 : Y < 2 ^ (t + 1)) (hst : s + t ≤ 16384) :
    2 ^ (s + t) ≤ pmul X Y ∧ pmul X Y < 2 ^ (s + t + 1) := by
  unfold pmul
  rw [exps_top X s h1 h2 (by omega), cm_cons, Int.toNat_natCast]
  have hX' : X ^^^ 2 ^ s < 2 ^ s := by rw [xor_top X s h1 h2]; exact Nat.mod_lt _ (Nat.two_pow_pos _)
  have hl : cm (exps (X ^^^ 2 ^ s)) Y < 2 ^ (s + t) := cm_lt _ _ t _ h4 (fun e he => by
    rcases Nat.eq_zero_or_pos s with h0 | h0
    · subst h0
      have : X ^^^ 2 ^ 0 = 0 := by omega
      rw [this, exps_zero] at he; cases he
    · have := exps_mem e _ (s - 1) he (by rw [show s - 1 + 1 = s by omega]; exact hX') (by omega)
      omega)
  have e1 : Y * 2 ^ s = 2 ^ (s + t) ^^^ (Y ^^^ 2 ^ t) * 2 ^ s := by
    rw [xor_mul_pow, ← Nat.pow_add, Nat.add_comm t s, ← Nat.xor_assoc, Nat.xor_comm (2 ^ (s + t)), Nat.xor_assoc, Nat.xor_self, Nat.xor_zero]
  have hY' : (Y ^^^ 2 ^ t) * 2 ^ s < 2 ^ (s + t) := by
    rw [xor_top Y t h3 h4, Nat.pow_add, Nat.mul_comm]
    exact Nat.mul_lt_mul_of_pos_left (Nat.mod_lt _ (Nat.two_pow_pos _)) (Nat.two_pow_pos _)
  rw [e1, Nat.xor_assoc]
  have := top_xor (s + t) _ (Nat.xor_lt_two_pow hY' hl)
  exact ⟨this.1, this.2.1⟩
end Go.Proofs.Ytnimgkijodfjkaa

/- Remainders over two numbers: they add up, leave nothing of a multiple, and are smaller than what is divided by. No Go in sight. -/
namespace Go.Proofs.Ytnimgkijodfjkaa
open Pm

theorem rm_xor (D d n R S : Nat) : rm D d n (R ^^^ S) = rm D d n R ^^^ rm D d n S := by
  induction n generalizing R S with
  | zero => rfl
  | succ n ih =>
    rw [rm_succ, rm_succ, rm_succ, ← ih, Nat.testBit_xor]
    congr 1
    generalize D * 2 ^ n = z
    cases R.testBit (d + n) <;> cases S.testBit (d + n) <;> simp
    · rw [Nat.xor_assoc]
    · rw [Nat.xor_assoc, Nat.xor_comm S z, ← Nat.xor_assoc]
    · rw [Nat.xor_assoc, Nat.xor_comm z (S ^^^ z), Nat.xor_assoc, Nat.xor_self, Nat.xor_zero]
theorem rm_small (D d n R : Nat) (h : R < 2 ^ d) : rm D d n R = R := by
  induction n generalizing R with
  | zero => rfl
  | succ n ih =>
    rw [rm_succ, Nat.testBit_lt_two_pow (Nat.lt_of_lt_of_le h (Nat.pow_le_pow_right (by omega) (by omega)))]
    exact ih R h
theorem rm_nothing (D d n : Nat) : rm D d n 0 = 0 := rm_small D d n 0 (Nat.two_pow_pos d)
theorem top_set (P t : Nat) (h1 : 2 ^ t ≤ P) (h2 : P < 2 ^ (t + 1)) : P.testBit t = true := by
  rw [Nat.testBit_eq_decide_div_mod_eq]
  have e : P / 2 ^ t = 1 := by
    have l1 : 1 ≤ P / 2 ^ t := (Nat.le_div_iff_mul_le (Nat.two_pow_pos t)).2 (by omega)
    have l2 : P / 2 ^ t < 2 := (Nat.div_lt_iff_lt_mul (Nat.two_pow_pos t)).2 (by rw [Nat.pow_succ] at h2; omega)
    omega
  rw [e]; rfl
theorem rm_mult (D d n e : Nat) (h1 : 2 ^ d ≤ D) (h2 : D < 2 ^ (d + 1)) (he : e < n) : rm D d n (D * 2 ^ e) = 0 := by
  induction n with
  | zero => omega
  | succ n ih =>
    rw [rm_succ, Nat.testBit_mul_two_pow]
    by_cases hn : e = n
    · subst hn
      have : d + e - e = d := by omega
      rw [this, top_set D d h1 h2]
      have hd : decide (e ≤ d + e) = true := by simp
      rw [hd, Bool.true_and, if_pos rfl, Nat.xor_self, rm_nothing]
    · have hb : D.testBit (d + n - e) = false := Nat.testBit_lt_two_pow (Nat.lt_of_lt_of_le h2 (Nat.pow_le_pow_right (by omega) (by omega)))
      rw [hb, Bool.and_false]
      exact ih (by omega)
theorem rm_cm (D d n : Nat) (l : List Int) (h1 : 2 ^ d ≤ D) (h2 : D < 2 ^ (d + 1)) (hl : ∀ e ∈ l, e.toNat < n) : rm D d n (cm l D) = 0 := by
  induction l with
  | nil => exact rm_nothing D d n
  | cons e l ih =>
    rw [cm_cons, rm_xor, rm_mult D d n _ h1 h2 (hl e List.mem_cons_self), ih (fun x hx => hl x (List.mem_cons_of_mem _ hx))]
    rfl
theorem rm_bound (D d n R : Nat) (h1 : 2 ^ d ≤ D) (h2 : D < 2 ^ (d + 1)) (hR : R < 2 ^ (d + n)) : rm D d n R < 2 ^ d := by
  induction n generalizing R with
  | zero => exact hR
  | succ n ih =>
    rw [rm_succ]
    apply ih
    by_cases hb : R.testBit (d + n) = true
    · rw [if_pos hb]
      have e1 : 2 ^ (d + n) ≤ R := Nat.ge_two_pow_of_testBit hb
      have e2 : D * 2 ^ n = 2 ^ (d + n) ^^^ (D ^^^ 2 ^ d) * 2 ^ n := by
        rw [xor_mul_pow, ← Nat.pow_add, ← Nat.xor_assoc, Nat.xor_comm (2 ^ (d + n)), Nat.xor_assoc, Nat.xor_self, Nat.xor_zero]
      have e3 : (D ^^^ 2 ^ d) * 2 ^ n < 2 ^ (d + n) := by
        rw [xor_top D d h1 h2, Nat.pow_add]
        exact Nat.mul_lt_mul_of_pos_right (Nat.mod_lt _ (Nat.two_pow_pos _)) (Nat.two_pow_pos _)
      have e4 : R ^^^ 2 ^ (d + n) < 2 ^ (d + n) := by
        rw [xor_top R (d + n) e1 (by rw [← Nat.add_assoc] at hR; exact hR)]
        exact Nat.mod_lt _ (Nat.two_pow_pos _)
      rw [e2, ← Nat.xor_assoc]
      exact Nat.xor_lt_two_pow e4 e3
    · rw [if_neg hb]
      rcases Nat.lt_or_ge R (2 ^ (d + n)) with h | h
      · exact h
      · exact absurd (top_set R (d + n) h (by rw [← Nat.add_assoc] at hR; exact hR)) hb
/-- what PolyDivides tells -/
theorem pmod_small (C D d : Nat) (h1 : 2 ^ d ≤ D) (h2 : D < 2 ^ (d + 1)) (hd : d ≤ 16384) (hC : C < 2 ^ top) : pmod C D d < 2 ^ d := by
  rw [← pmod_def]
  refine rm_bound D d _ C h1 h2 ?_
  have e : d + (16385 - d) = top := by unfold top; omega
  rw [e]; exact hC
theorem pmod_divides (A D d s R : Nat) (h1 : 2 ^ d ≤ D) (h2 : D < 2 ^ (d + 1)) (hA : A < 2 ^ (s + 1)) (hs : s + d ≤ 16384) (hR : R < 2 ^ d) : pmod (pmul A D ^^^ R) D d = R := by
  rw [← pmod_def, rm_xor, rm_small D d _ R hR]
  have : rm D d (16385 - d) (pmul A D) = 0 := rm_cm D d _ _ h1 h2 (fun e he => by
    have := exps_mem e A s he hA (by omega)
    omega)
  rw [this, Nat.zero_xor]
end Go.Proofs.Ytnimgkijodfjkaa

/- Walks over the document's own answers for layer 2: Bits, List. -/
namespace Go.Proofs.Ytnimgkijodfjkaa
open Go.RowKit Pm

theorem boolCells : (Try.prog.info? 4).map (fun i => (i.zero, i.size, i.bytes)) = some (some (.bool false), 1, 1) := by kernel_rfl
/-- a bit an exponent -/
def bitRow (P i : Nat) : Value := .bool (P.testBit i)
theorem bitRow_tog (P n : Nat) (hn : n ≤ 16384) (i : Nat) : bitRow (P ^^^ tog (n : Int)) i = if i = n then .bool (!(P.testBit n)) else bitRow P i := by
  have e : tog (n : Int) = 2 ^ n := by unfold tog; rw [if_pos (by omega), Int.toNat_natCast]
  unfold bitRow
  rw [e, Nat.testBit_xor, Nat.testBit_two_pow]
  by_cases h : i = n
  · subst h; rw [if_pos rfl]; simp
  · have f : decide (n = i) = false := by simp; omega
    rw [if_neg h, f]; simp

set_option maxRecDepth 20000 in
set_option maxHeartbeats 800000 in
theorem rBits_any (a : Option Addr) (len cap B : Nat) (xs : List Int) (w : World) (hr : Ints w B a len xs) (hB : B ≤ w.heap.size) (hm : len ≤ maxLen) :
    Calls Try.prog 61 #[.slice a len cap] w fun e w' => e = .returned (.slice (some ⟨w.heap.size, 0, none⟩) 16385 16385) ∧ w'.rowIs w.heap.size 4 16385 (bitRow (gat xs)) ∧ Upd noBlock w w' := by
  have hcap : len ≤ 9223372036854775807 := by unfold maxLen at hm; omega
  have Hlen := Lib.hid hr.1
  obtain ⟨O1, HO1, hm1⟩ : ∃ O : Obj, Hid (O = .cells (madeCells #[.bool false] 16385) 4) ∧ ∀ w : World, (Instr.makeSlice 127 (.int .i64 16385) (.int .i64 16385)).run Try.prog w = .ok (.slice (some ⟨w.heap.size, 0, none⟩) 16385 16385) (w.alloc O) :=
    ⟨_, rfl, run_make_row' (P := Try.prog) 127 4 (.bool false) 1 Try.underlying127 boolCells rfl .i64 .i64 16385 (by omega) (by omega)⟩
  have HU : Hid (Upd noBlock w (w.alloc O1)) := (Upd.refl noBlock w).alloc _
  have HR := Lib.hid (hr.grow HU.out hB)
  have HB : Hid ((w.alloc O1).rowIs w.heap.size 4 16385 (bitRow 0)) := by
    rw [HO1.out]
    exact (World.rowIs_made w (.bool false) 16385 4).congr (fun i _ => by simp [bitRow])
  clear hr HO1 hm
  go_enter Try.func61, Try.ntmps61
  go_wp2
  clear hm1
  go_loopw [4] (fun i wr => ∃ k : Nat, k ≤ len ∧ i = .int .i64 (k : Int) ∧ Hid (wr.rowIs w.heap.size 4 16385 (bitRow (gat (xs.take k)))) ∧ Hid (Ints wr B a len xs) ∧ Hid (Upd noBlock w wr)) (fun i _ => len - (intOf i).toNat)
  case atStart => exact ⟨0, Nat.zero_le _, rfl, HB, HR, HU⟩
  case round =>
    clear HB HR HU
    obtain ⟨k, hk, rfl, HB, HR, HU⟩ := hrel
    by_cases h0 : k < len
    · obtain ⟨g, off, rfl, hgB, hcell⟩ := HR.out.cell (by omega)
      have c1 := hcell k h0
      have hs := gat_take_succ xs k (by have := Hlen.out; omega)
      generalize xs.getD k 0 = z at c1 hs
      have HS := Lib.hid hs
      clear hs hcell
      by_cases h1 : 0 ≤ z
      · obtain ⟨n, rfl⟩ := Int.eq_ofNat_of_zero_le h1
        by_cases h2 : n ≤ 16384
        · have c2 : wr.cell? ⟨w.heap.size, n, none⟩ = some (.bool ((gat (xs.take k)).testBit n)) := HB.out.cell (i := n) (by omega)
          have f2 := HB.out.frozen n
          have hnot : ∀ (x : Bool) (w : World), (Op.unary .not (.bool x)).run Try.prog w = .ok (.bool (!x)) w := fun _ _ => rfl
          have HN : Hid ((wr.setCell ⟨w.heap.size, n, none⟩ (.bool (!(gat (xs.take k)).testBit n))).rowIs w.heap.size 4 16385 (bitRow (gat (xs.take (k + 1))))) :=
            (HB.out.set n _).congr (fun i _ => by rw [HS.out, bitRow_tog _ n h2 i])
          have HNU : Hid (Upd noBlock w (wr.setCell ⟨w.heap.size, n, none⟩ (.bool (!(gat (xs.take k)).testBit n)))) := HU.out.setCell (.inr (Nat.le_refl _)) _
          have HNR : Hid (Ints (wr.setCell ⟨w.heap.size, n, none⟩ (.bool (!(gat (xs.take k)).testBit n))) B (some ⟨g, off, none⟩) len xs) := HR.out.keep (fun g' _ hg' => Below.heap_setCell _ _ _ _ (by simp; omega))
          have nb : ¬ g = w.heap.size := by omega
          have nb2 : ¬ w.heap.size = g := by omega
          have t1 : decide ((n : Int) ≤ 16384) = true := decide_eq_true (by omega)
          have t2 : (n : Int) < 16385 := by omega
          generalize (gat (xs.take k)).testBit n = bt at c2 HN HNU HNR
          clear h1
          go_wp2
          go_region
          go_wp2
          go_roundw
          case rel => exact ⟨k + 1, by omega, by go_num, HN, HNR, HNU.out.drew⟩
          case measure => simp [intOf]; omega
        · have HS2 : Hid (gat (xs.take (k + 1)) = gat (xs.take k)) := by
            have h := HS.out
            have e : tog (n : Int) = 0 := by unfold tog; rw [if_neg (by omega)]
            rw [e, Nat.xor_zero] at h; exact h
          have h3 : (16384 : Int) < (n : Int) := by omega
          clear h2 HS
          go_wp2
          go_roundw
          case rel => exact ⟨k + 1, by omega, by go_num, by rw [HS2.out]; exact HB, HR, HU⟩
          case measure => simp [intOf]; omega
      · have HS2 : Hid (gat (xs.take (k + 1)) = gat (xs.take k)) := by
          have h := HS.out
          have e : tog z = 0 := by unfold tog; rw [if_neg (by omega)]
          rw [e, Nat.xor_zero] at h; exact h
        have h3 : z < 0 := by omega
        clear h1 HS
        go_wp2
        go_roundw
        case rel => exact ⟨k + 1, by omega, by go_num, by rw [HS2.out]; exact HB, HR, HU⟩
        case measure => simp [intOf]; omega
    · obtain rfl : k = len := by omega
      have ht : gat (xs.take k) = gat xs := by rw [List.take_of_length_le (by have := Hlen.out; omega)]
      rw [ht] at HB
      clear ht HR
      go_wp2
      go_ret
      exact ⟨rfl, HB.out, HU.out⟩

theorem exps_low (P k : Nat) (hk : k + 1 ≤ top) : exps (P % 2 ^ (k + 1)) = if P.testBit k then (k : Int) :: exps (P % 2 ^ k) else exps (P % 2 ^ k) := by
  rw [exps_mod P (k + 1) hk, exps_mod P k (by omega)]; rfl
theorem exps_all (P : Nat) (h : P < 2 ^ top) : exps (P % 2 ^ top) = exps P := by rw [Nat.mod_eq_of_lt h]
attribute [local irreducible] Pm.exps

set_option maxRecDepth 20000 in
set_option maxHeartbeats 1600000 in
theorem rList_any (g P : Nat) (w : World) (hb : w.rowIs g 4 16385 (bitRow P)) (hP : P < 2 ^ top) :
    Calls Try.prog 60 #[.slice (some ⟨g, 0, none⟩) 16385 16385] w fun e w' => ∃ v, e = .returned v ∧ PolyV w w' v P ∧ Upd noBlock w w' := by
  obtain ⟨i0, hi0, hz0, hz1, hz2⟩ := intParts2
  have HB := Lib.hid hb
  have hbs := hb.lt
  have HP := Lib.hid hP
  clear hb hP
  go_enter Try.func60, Try.ntmps60
  go_wp2
  go_loopw [3, 4] (fun v i wr => ∃ (k : Nat) (out : List Int), k ≤ 16385 ∧ i = .int .i64 ((k : Int) - 1) ∧ Hid (wr.ownsRow w.heap.size 3 1 v out.length (vals out)) ∧ Hid (out ++ exps (P % 2 ^ k) = exps P) ∧ Hid (Upd noBlock w wr)) (fun _ i _ => (intOf i + 1).toNat)
  case atStart =>
    exact ⟨top, [], by unfold top; omega, rfl, World.ownsRow_nil _ _ _ _, exps_all P HP.out, Upd.refl _ _⟩
  case round =>
    obtain ⟨k, out, hk, rfl, HO, HE, HU⟩ := hrel
    by_cases h0 : 0 < k
    · obtain ⟨i, rfl⟩ : ∃ i, k = i + 1 := ⟨k - 1, by omega⟩
      have e1 : ((i + 1 : Nat) : Int) - 1 = (i : Int) := by omega
      rw [e1]
      have hb2 := HB.out.of_block (HU.out.block g hbs (fun h => h))
      have c1 : wr.cell? ⟨g, i, none⟩ = some (.bool (P.testBit i)) := hb2.cell (i := i) (by omega)
      have hlow := exps_low P i (by unfold top; omega)
      have hi5 : i < 16385 := by omega
      have hl0 : out.length + 1 ≤ 99999 := by
        have h1 := congrArg List.length HE.out
        rw [List.length_append] at h1
        have h2 := exps_length P
        omega
      have HK := Lib.hid hk
      clear e1 hb2 hk
      by_cases hbit : P.testBit i = true
      · have HE2 : Hid ((out ++ [(i : Int)]) ++ exps (P % 2 ^ i) = exps P) := by
          have h := HE.out
          rw [hlow, if_pos hbit] at h
          show (out ++ [(i : Int)]) ++ exps (P % 2 ^ i) = exps P
          rw [List.append_assoc]; exact h
        rw [hbit] at c1
        have HIn : Hid (Ints (wr.alloc (.cells #[.int .i64 (i : Int)] 3)) (wr.heap.size + 1) (some ⟨wr.heap.size, 0, none⟩) 1 [(i : Int)]) :=
          ⟨rfl, fun _ => ⟨wr.heap.size, 0, rfl, by omega, fun j hj => by
            obtain rfl : j = 0 := by omega
            rw [cell_of (heap_alloc_new wr _)]; rfl⟩⟩
        have HO2 := Lib.hid (HO.out.alloc (.cells #[.int .i64 (i : Int)] 3))
        have HU2 := Lib.hid (HU.out.alloc (.cells #[.int .i64 (i : Int)] 3))
        have HL := Lib.hid hl0
        have hsz := HU.out.size
        clear HU HO HE hbit hlow hl0
        go_wp2_with (at_builtin; refine wpList_append_ints _ rfl (.tmp 16) (.tmp 18) _ rfl w.heap.size 3 i0 _ Try.underlying37 hi0 hz0 hz1 hz2 rfl _ out.length (vals out) rfl HO2.out (wr.heap.size + 1) (some ⟨wr.heap.size, 0, none⟩) 1 1 [(i : Int)] rfl HIn.out (by have := HL.out; simp only [maxLen]; omega) (by have := HL.out; omega) (by simp; omega) ?_; intro v3 w3 hown3 hg3 _)
        go_roundw
        case rel =>
          refine ⟨i, out ++ [(i : Int)], by omega, rfl, ?_, HE2, ?_⟩
          · have e : (out ++ [(i : Int)]).length = out.length + 1 := by simp
            have e2 : vals (out ++ [(i : Int)]) = vals out ++ vals [(i : Int)] := by simp [vals]
            rw [e, e2]
            exact hown3
          · exact HU2.out.grownOwn hg3 (fun k hk => (HO2.out.lt k hk).1)
        case measure => simp [intOf]
      · have hbf : P.testBit i = false := by simpa using hbit
        have HE2 : Hid (out ++ exps (P % 2 ^ i) = exps P) := by
          have h := HE.out
          rw [hlow, if_neg hbit] at h
          exact h
        rw [hbf] at c1
        clear HE hbit hlow hl0 hbf
        go_wp2
        go_roundw
        case rel => exact ⟨i, out, by omega, rfl, HO, HE2, HU⟩
        case measure => simp [intOf]
    · obtain rfl : k = 0 := by omega
      have e1 : ((0 : Nat) : Int) - 1 = -1 := by omega
      rw [e1]
      have hout : out = exps P := by
        have := HE.out
        rw [Nat.pow_zero, Nat.mod_one, exps_zero, List.append_nil] at this
        exact this
      subst hout
      go_wp2
      go_ret
      exact ⟨_, rfl, ⟨HO.out, HP.out⟩, HU.out⟩
end Go.Proofs.Ytnimgkijodfjkaa

/- The law PolyDivides, walked. -/
namespace Go.Proofs.Ytnimgkijodfjkaa
open Go.RowKit Pm

theorem Ints.next {w w' : World} {n : Nat} {a : Option Addr} {xs : List Int} (h : Ints w w.heap.size a n xs) (hu : Upd noBlock w w') : Ints w' w'.heap.size a n xs :=
  (h.grow hu (Nat.le_refl _)).more hu.size
theorem upd_ends {a b : World} (h : Upd noBlock a b) : Below a.heap.size a b := h.below (fun _ _ h => h)
theorem row_len {w : World} {a : Option Addr} {len cap : Nat} {zs : List Int} (h : IsRow .i64 w a len cap zs) : len ≤ cap := by
  rcases h with ⟨_, h, _, _⟩ | ⟨_, _, h, _⟩
  · omega
  · exact h
attribute [local irreducible] Pm.exps rm pmod pmul

end Go.Proofs.Ytnimgkijodfjkaa

/- Walks over the document's own answers for layer 2: Mul. -/
namespace Go.Proofs.Ytnimgkijodfjkaa
open Go.RowKit Pm

theorem gat_shift (l : List Int) (k n : Nat) (h : k < l.length) (he : 0 ≤ l.getD k 0 ∧ l.getD k 0 + n ≤ 16384) :
    gat (l.take (k + 1)) * 2 ^ n = gat (l.take k) * 2 ^ n ^^^ tog (((l.getD k 0).toNat + n : Nat) : Int) := by
  rw [gat_take_succ l k h, xor_mul_pow]
  have e1 : tog (l.getD k 0) = 2 ^ (l.getD k 0).toNat := tog_ok _ (by omega)
  have e2 : tog (((l.getD k 0).toNat + n : Nat) : Int) = 2 ^ ((l.getD k 0).toNat + n) := by rw [tog_ok _ (by omega), Int.toNat_natCast]
  rw [e1, e2, Nat.pow_add]
attribute [local irreducible] Pm.exps

set_option maxRecDepth 20000 in
set_option maxHeartbeats 1600000 in
theorem rMul2_ok (a : Option Addr) (len cap B : Nat) (xs : List Int) (a' : Option Addr) (len' cap' B' : Nat) (ys : List Int) (w : World) (hr : Ints w B a len xs) (hB : B ≤ w.heap.size) (hm : len ≤ maxLen)
    (hr' : Ints w B' a' len' ys) (hB' : B' ≤ w.heap.size) (hm' : len' ≤ maxLen) (s t : Nat) (hs1 : 2 ^ s ≤ gat xs) (hs2 : gat xs < 2 ^ (s + 1)) (ht1 : 2 ^ t ≤ gat ys) (ht2 : gat ys < 2 ^ (t + 1)) (hst : s + t ≤ 16384) :
    Calls Try.prog 45 #[.slice a len cap, .slice a' len' cap'] w fun e w' => ∃ v, e = .returned (.tuple #[v, .bool true]) ∧ PolyV w w' v (pmul (gat xs) (gat ys)) ∧ Upd noBlock w w' := by
  have HR := Lib.hid hr
  have HR' := Lib.hid hr'
  have HP : Hid (pmul (gat xs) (gat ys) < 2 ^ top) := Nat.lt_of_lt_of_le (pmul_deg _ _ s t hs1 hs2 ht1 ht2 hst).2 (Nat.pow_le_pow_right (by omega) (by unfold top; omega))
  have HX := Lib.hid (exps_top (gat xs) s hs1 hs2 (by omega))
  have HY := Lib.hid (exps_top (gat ys) t ht1 ht2 (by omega))
  have HMX : Hid (∀ e ∈ exps (gat xs), 0 ≤ e ∧ e ≤ s) := fun e he => exps_mem e _ s he hs2 (by omega)
  have HMY : Hid (∀ e ∈ exps (gat ys), 0 ≤ e ∧ e ≤ t) := fun e he => exps_mem e _ t he ht2 (by omega)
  have t3 : decide ((16384 : Int) < (s : Int) + (t : Int)) = false := decide_eq_false (by omega)
  have t4 : IntKind.i64.wrap ((s : Int) + (t : Int)) = (s : Int) + (t : Int) := IntWalk.i64_in _ (by omega)
  have HST := Lib.hid hst
  obtain ⟨O1, HO1, hm1⟩ : ∃ O : Obj, Hid (O = .cells (madeCells #[.bool false] 16385) 4) ∧ ∀ w : World, (Instr.makeSlice 127 (.int .i64 16385) (.int .i64 16385)).run Try.prog w = .ok (.slice (some ⟨w.heap.size, 0, none⟩) 16385 16385) (w.alloc O) :=
    ⟨_, rfl, run_make_row' (P := Try.prog) 127 4 (.bool false) 1 Try.underlying127 boolCells rfl .i64 .i64 16385 (by omega) (by omega)⟩
  clear hr hr' hs1 ht1 ht2 hs2 hst
  go_enter Try.func45, Try.ntmps45
  go_wp2_with fail
  refine (rBits_any a len cap B xs _ HR.out hB hm).mono ?_
  rintro e w1 ⟨rfl, hb1, hu1⟩
  have HB1 := Lib.hid hb1
  have HU1 := Lib.hid hu1
  clear hb1 hu1
  go_wp2_with fail
  refine (rList_any w.heap.size (gat xs) _ HB1.out (gat_lt xs)).mono ?_
  rintro e w2 ⟨v2, rfl, hv2, hu2⟩
  have HU2 := Lib.hid (HU1.out.trans hu2)
  obtain ⟨p2, c2, rfl, hi2, m2, _⟩ := own_ints hv2.1
  have HI2 := Lib.hid hi2
  clear hu2 hv2 hi2 HB1 HU1
  go_wp2_with fail
  refine (rBits_any a' len' cap' B' ys _ (HR'.out.grow HU2.out hB') (Nat.le_trans hB' HU2.out.size) hm').mono ?_
  rintro e w3 ⟨rfl, hb3, hu3⟩
  have HB3 := Lib.hid hb3
  have HU3 := Lib.hid (HU2.out.trans hu3)
  have HI3 := Lib.hid ((HI2.out.grow hu3 (Nat.le_refl _)).more hu3.size)
  clear hb3 hu3 HU2 HI2
  go_wp2_with fail
  refine (rList_any w2.heap.size (gat ys) _ HB3.out (gat_lt ys)).mono ?_
  rintro e w4 ⟨v4, rfl, hv4, hu4⟩
  have HU4 := Lib.hid (HU3.out.trans hu4)
  obtain ⟨p4, c4, rfl, hi4, m4, _⟩ := own_ints hv4.1
  have HJ4 := Lib.hid hi4
  have HI4 := Lib.hid ((HI3.out.grow hu4 (Nat.le_refl _)).more hu4.size)
  clear hu4 hv4 hi4 HB3 HU3 HI3
  obtain ⟨g1, o1, rfl, _, hc1⟩ := HI4.out.cell (by rw [HX.out]; simp)
  obtain ⟨g2, o2, rfl, _, hc2⟩ := HJ4.out.cell (by rw [HY.out]; simp)
  have d1 : w4.cell? ⟨g1, o1, none⟩ = some (.int .i64 (s : Int)) := by have := hc1 0 (by rw [HX.out]; simp); rw [HX.out] at this; exact this
  have d2 : w4.cell? ⟨g2, o2, none⟩ = some (.int .i64 (t : Int)) := by have := hc2 0 (by rw [HY.out]; simp); rw [HY.out] at this; exact this
  have hl1 : 0 < (exps (gat xs)).length := by rw [HX.out]; simp
  have hl2 : 0 < (exps (gat ys)).length := by rw [HY.out]; simp
  clear hc1 hc2
  generalize hn1 : (exps (gat xs)).length = n1 at *
  generalize hn2 : (exps (gat ys)).length = n2 at *
  have HN1 := Lib.hid hn1
  have HN2 := Lib.hid hn2
  clear hn1 hn2
  have t1 : ((n1 : Int) == 0) = false := beq_eq_false_iff_ne.2 (by omega)
  have t2 : ((n2 : Int) == 0) = false := beq_eq_false_iff_ne.2 (by omega)
  have hn1 : n1 ≤ 9223372036854775807 := by unfold maxLen at m2; omega
  have hn2 : n2 ≤ 9223372036854775807 := by unfold maxLen at m4; omega
  clear m2 m4
  go_wp2_with fail
  go_quiet (fail)
  go_wp2_with fail
  have HB : Hid (((w4.drewN nq).alloc O1).rowIs w4.heap.size 4 16385 (bitRow (cm ((exps (gat xs)).take 0) (gat ys)))) := by
    rw [HO1.out]
    exact (World.rowIs_made (w4.drewN nq) (.bool false) 16385 4).congr (fun i _ => by simp [bitRow, cm])
  have hu5 : Upd noBlock w4 ((w4.drewN nq).alloc O1) := ((Upd.refl noBlock w4).drewN nq).alloc _
  have HI5 := Lib.hid (HI4.out.grow hu5 (Nat.le_refl _))
  have HJ5 := Lib.hid (HJ4.out.grow hu5 (Nat.le_refl _))
  have HU5 := Lib.hid (HU4.out.trans hu5)
  have hs4 := HU4.out.size
  have hgx : ∀ k, k < n1 → 0 ≤ (exps (gat xs)).getD k 0 ∧ (exps (gat xs)).getD k 0 ≤ s := fun k hk => by
    have hl : k < (exps (gat xs)).length := by rw [HN1.out]; exact hk
    have e : (exps (gat xs)).getD k 0 = (exps (gat xs))[k] := by rw [List.getD_eq_getElem?_getD, List.getElem?_eq_getElem hl]; rfl
    rw [e]; exact HMX.out _ (List.getElem_mem hl)
  have hgy : ∀ k, k < n2 → 0 ≤ (exps (gat ys)).getD k 0 ∧ (exps (gat ys)).getD k 0 ≤ t := fun k hk => by
    have hl : k < (exps (gat ys)).length := by rw [HN2.out]; exact hk
    have e : (exps (gat ys)).getD k 0 = (exps (gat ys))[k] := by rw [List.getD_eq_getElem?_getD, List.getElem?_eq_getElem hl]; rfl
    rw [e]; exact HMY.out _ (List.getElem_mem hl)
  have HGX := Lib.hid hgx
  have HGY := Lib.hid hgy
  clear hgx hgy hu5 HI4 HJ4 HU4 t3 t4 hm1 d1 d2 HMX HMY HO1
  go_loopw [9] (fun i wr => ∃ k : Nat, k ≤ n1 ∧ i = .int .i64 (k : Int) ∧ Hid (wr.rowIs w4.heap.size 4 16385 (bitRow (cm ((exps (gat xs)).take k) (gat ys)))) ∧ Hid (Ints wr w4.heap.size (some ⟨g1, o1, none⟩) n1 (exps (gat xs))) ∧ Hid (Ints wr w4.heap.size (some ⟨g2, o2, none⟩) n2 (exps (gat ys))) ∧ Hid (Upd noBlock w wr)) (fun i _ => n1 - (intOf i).toNat)
  case atStart => exact ⟨0, Nat.zero_le _, rfl, HB, HI5, HJ5, HU5⟩
  case round =>
    clear HB HI5 HJ5 HU5
    obtain ⟨k, hk, rfl, HB, HI, HJ, HU⟩ := hrel
    by_cases h0 : k < n1
    · have hkx := HGX.out k h0
      have hstep := cm_take (exps (gat xs)) (gat ys) k (by rw [HN1.out]; exact h0)
      obtain ⟨n, Hn⟩ : ∃ n : Nat, Hid ((exps (gat xs)).getD k 0 = (n : Int)) := by
        obtain ⟨n, hn⟩ := Int.eq_ofNat_of_zero_le hkx.1
        exact ⟨n, hn⟩
      rw [Hn.out] at hkx hstep
      rw [Int.toNat_natCast] at hstep
      have HS := Lib.hid hstep
      have hns : n ≤ s := by omega
      clear hstep hkx
      have HB0 : Hid (wr.rowIs w4.heap.size 4 16385 (bitRow (cm ((exps (gat xs)).take k) (gat ys) ^^^ gat ((exps (gat ys)).take 0) * 2 ^ n))) := by
        have e : cm ((exps (gat xs)).take k) (gat ys) ^^^ gat ((exps (gat ys)).take 0) * 2 ^ n = cm ((exps (gat xs)).take k) (gat ys) := by simp [gat]
        rw [e]; exact HB.out
      go_wp2
      obtain ⟨wo, rfl⟩ : ∃ wo : World, wo = wr := ⟨_, rfl⟩
      go_loopw [10] (fun j wr => ∃ m : Nat, m ≤ n2 ∧ j = .int .i64 (m : Int) ∧ Hid (wr.rowIs w4.heap.size 4 16385 (bitRow (cm ((exps (gat xs)).take k) (gat ys) ^^^ gat ((exps (gat ys)).take m) * 2 ^ n))) ∧ Hid (Ints wr w4.heap.size (some ⟨g1, o1, none⟩) n1 (exps (gat xs))) ∧ Hid (Ints wr w4.heap.size (some ⟨g2, o2, none⟩) n2 (exps (gat ys))) ∧ Hid (Upd noBlock w wr)) (fun j _ => n2 - (intOf j).toNat)
      case atStart => exact ⟨0, Nat.zero_le _, rfl, HB0, HI, HJ, HU⟩
      case round =>
        clear HB0 HB HI HJ HU
        obtain ⟨m, hm, rfl, HB, HI, HJ, HU⟩ := hrel
        by_cases hj : m < n2
        · obtain ⟨g', o', hgo, hgl1, hcell1⟩ := HI.out.cell (by omega)
          obtain ⟨rfl, rfl⟩ : g1 = g' ∧ o1 = o' := by simpa using hgo
          obtain ⟨g'', o'', hgo2, hgl2, hcell2⟩ := HJ.out.cell (by omega)
          obtain ⟨rfl, rfl⟩ : g2 = g'' ∧ o2 = o'' := by simpa using hgo2
          have c1 := hcell1 k h0
          have c2 := hcell2 m hj
          have hqy := HGY.out m hj
          have hsh := gat_shift (exps (gat ys)) m n (by rw [HN2.out]; exact hj) (by have := HST.out; omega)
          rw [Hn.out] at c1
          generalize (exps (gat ys)).getD m 0 = z at c2 hqy hsh
          obtain ⟨q, rfl⟩ := Int.eq_ofNat_of_zero_le hqy.1
          rw [Int.toNat_natCast] at hsh
          have hnq : q + n ≤ 16384 := by have := HST.out; omega
          have c3 : wr.cell? ⟨w4.heap.size, n + q, none⟩ = some (.bool ((cm ((exps (gat xs)).take k) (gat ys) ^^^ gat ((exps (gat ys)).take m) * 2 ^ n).testBit (n + q))) := HB.out.cell (i := n + q) (by omega)
          have f3 := HB.out.frozen (n + q)
          have hnot : ∀ (x : Bool) (w : World), (Op.unary .not (.bool x)).run Try.prog w = .ok (.bool (!x)) w := fun _ _ => rfl
          have HN : Hid ((wr.setCell ⟨w4.heap.size, n + q, none⟩ (.bool (!(cm ((exps (gat xs)).take k) (gat ys) ^^^ gat ((exps (gat ys)).take m) * 2 ^ n).testBit (n + q)))).rowIs w4.heap.size 4 16385 (bitRow (cm ((exps (gat xs)).take k) (gat ys) ^^^ gat ((exps (gat ys)).take (m + 1)) * 2 ^ n))) :=
            (HB.out.set (n + q) _).congr (fun i _ => by
              have e : q + n = n + q := Nat.add_comm q n
              rw [hsh, ← Nat.xor_assoc, e, bitRow_tog _ (n + q) (by omega) i])
          generalize (cm ((exps (gat xs)).take k) (gat ys) ^^^ gat ((exps (gat ys)).take m) * 2 ^ n).testBit (n + q) = bt at c3 HN
          have HNU : Hid (Upd noBlock w (wr.setCell ⟨w4.heap.size, n + q, none⟩ (.bool (!bt)))) := HU.out.setCell (.inr hs4) _
          have HNI : Hid (Ints (wr.setCell ⟨w4.heap.size, n + q, none⟩ (.bool (!bt))) w4.heap.size (some ⟨g1, o1, none⟩) n1 (exps (gat xs))) := HI.out.keep (fun g' _ hg' => Below.heap_setCell _ _ _ _ (by simp; omega))
          have HNJ : Hid (Ints (wr.setCell ⟨w4.heap.size, n + q, none⟩ (.bool (!bt))) w4.heap.size (some ⟨g2, o2, none⟩) n2 (exps (gat ys))) := HJ.out.keep (fun g' _ hg' => Below.heap_setCell _ _ _ _ (by simp; omega))
          have b1 : ¬ g1 = w4.heap.size := by omega
          have b2 : ¬ w4.heap.size = g1 := by omega
          have b3 : ¬ g2 = w4.heap.size := by omega
          have b4 : ¬ w4.heap.size = g2 := by omega
          have hn9 : n < 99999 := by omega
          have hq9 : q < 99999 := by omega
          have hnq2 : (n : Int) + (q : Int) < 16385 := by omega
          clear hsh hnq hqy hcell1 hcell2 hgo hgo2 hns
          go_wp2
          go_region
          go_wp2
          go_roundw
          case rel => exact ⟨m + 1, by omega, by go_num, HN, HNI, HNJ, HNU.out.drew⟩
          case measure => simp [intOf]; omega
        · obtain rfl : m = n2 := by omega
          have HB2 : Hid (wr.rowIs w4.heap.size 4 16385 (bitRow (cm ((exps (gat xs)).take (k + 1)) (gat ys)))) := by
            have h := HB.out
            have e : (exps (gat ys)).take m = exps (gat ys) := List.take_of_length_le (by have := HN2.out; omega)
            rw [e, gat_exps _ (gat_lt ys), ← HS.out] at h
            exact h
          clear HB
          go_wp2
          go_roundw
          case rel => exact ⟨k + 1, by omega, by go_num, HB2, HI, HJ, HU⟩
          case measure => simp [intOf]; omega
    · obtain rfl : k = n1 := by omega
      have HB2 : Hid (wr.rowIs w4.heap.size 4 16385 (bitRow (pmul (gat xs) (gat ys)))) := by
        have h := HB.out
        rw [List.take_of_length_le (by have := HN1.out; omega)] at h
        exact h
      clear HB HI HJ
      go_wp2_with fail
      refine (rList_any w4.heap.size _ _ HB2.out HP.out).mono ?_
      rintro e w5 ⟨v, rfl, hv, hu⟩
      have HV : Hid (PolyV w w5 v (pmul (gat xs) (gat ys))) := ⟨own_more hv.1 HU.out.size, hv.2⟩
      have HU6 := Lib.hid (HU.out.trans hu)
      clear hv hu
      go_wp2_with fail
      go_ret2
      exact ⟨_, rfl, HV.out, HU6.out⟩
end Go.Proofs.Ytnimgkijodfjkaa

/- The document's Mul where nothing or too much comes out; the law PolyProducts, walked. -/
namespace Go.Proofs.Ytnimgkijodfjkaa
open Go.RowKit Pm
attribute [local irreducible] Pm.exps pmul

set_option maxRecDepth 20000 in
set_option maxHeartbeats 800000 in
theorem rMul2_zero (a : Option Addr) (len cap B : Nat) (xs : List Int) (a' : Option Addr) (len' cap' B' : Nat) (ys : List Int) (w : World) (hr : Ints w B a len xs) (hB : B ≤ w.heap.size) (hm : len ≤ maxLen)
    (hr' : Ints w B' a' len' ys) (hB' : B' ≤ w.heap.size) (hm' : len' ≤ maxLen) (hz : gat xs = 0 ∨ gat ys = 0) :
    Calls Try.prog 45 #[.slice a len cap, .slice a' len' cap'] w fun e w' => e = .returned (.tuple #[.slice none 0 0, .bool true]) ∧ Upd noBlock w w' := by
  have HR := Lib.hid hr
  have HR' := Lib.hid hr'
  clear hr hr'
  by_cases hx : gat xs = 0
  · have HL : Hid ((exps (gat xs)).length = 0) := by rw [hx, exps_zero]; exact rfl
    clear hx hz
    go_enter Try.func45, Try.ntmps45
    go_wp2_with fail
    refine (rBits_any a len cap B xs _ HR.out hB hm).mono ?_
    rintro e w1 ⟨rfl, hb1, hu1⟩
    have HB1 := Lib.hid hb1
    have HU1 := Lib.hid hu1
    clear hb1 hu1
    go_wp2_with fail
    refine (rList_any w.heap.size (gat xs) _ HB1.out (gat_lt xs)).mono ?_
    rintro e w2 ⟨v2, rfl, hv2, hu2⟩
    have HU2 := Lib.hid (HU1.out.trans hu2)
    obtain ⟨p2, c2, rfl, hi2, m2, _⟩ := own_ints hv2.1
    have HI2 := Lib.hid hi2
    clear hu2 hv2 hi2 HB1 HU1
    rw [HL.out]
    go_wp2_with fail
    refine (rBits_any a' len' cap' B' ys _ (HR'.out.grow HU2.out hB') (Nat.le_trans hB' HU2.out.size) hm').mono ?_
    rintro e w3 ⟨rfl, hb3, hu3⟩
    have HB3 := Lib.hid hb3
    have HU3 := Lib.hid (HU2.out.trans hu3)
    have HI3 := Lib.hid ((HI2.out.grow hu3 (Nat.le_refl _)).more hu3.size)
    clear hb3 hu3 HU2 HI2
    go_wp2_with fail
    refine (rList_any w2.heap.size (gat ys) _ HB3.out (gat_lt ys)).mono ?_
    rintro e w4 ⟨v4, rfl, hv4, hu4⟩
    have HU4 := Lib.hid (HU3.out.trans hu4)
    obtain ⟨p4, c4, rfl, hi4, m4, _⟩ := own_ints hv4.1
    have HJ4 := Lib.hid hi4
    have HI4 := Lib.hid ((HI3.out.grow hu4 (Nat.le_refl _)).more hu4.size)
    clear hu4 hv4 hi4 HB3 HU3 HI3
    go_wp2_with fail
    go_ret2
    exact ⟨rfl, HU4.out⟩
  · have hy : gat ys = 0 := by omega
    have HL : Hid ((exps (gat ys)).length = 0) := by rw [hy, exps_zero]; exact rfl
    have h1 : (((exps (gat xs)).length : Int) == 0) = false := by
      obtain ⟨t, _, _, _, e⟩ := exps_head _ hx (gat_lt xs)
      rw [e]; exact beq_eq_false_iff_ne.2 (by simp; omega)
    clear hx hz hy
    go_enter Try.func45, Try.ntmps45
    go_wp2_with fail
    refine (rBits_any a len cap B xs _ HR.out hB hm).mono ?_
    rintro e w1 ⟨rfl, hb1, hu1⟩
    have HB1 := Lib.hid hb1
    have HU1 := Lib.hid hu1
    clear hb1 hu1
    go_wp2_with fail
    refine (rList_any w.heap.size (gat xs) _ HB1.out (gat_lt xs)).mono ?_
    rintro e w2 ⟨v2, rfl, hv2, hu2⟩
    have HU2 := Lib.hid (HU1.out.trans hu2)
    obtain ⟨p2, c2, rfl, hi2, m2, _⟩ := own_ints hv2.1
    have HI2 := Lib.hid hi2
    clear hu2 hv2 hi2 HB1 HU1
    go_wp2_with fail
    refine (rBits_any a' len' cap' B' ys _ (HR'.out.grow HU2.out hB') (Nat.le_trans hB' HU2.out.size) hm').mono ?_
    rintro e w3 ⟨rfl, hb3, hu3⟩
    have HB3 := Lib.hid hb3
    have HU3 := Lib.hid (HU2.out.trans hu3)
    have HI3 := Lib.hid ((HI2.out.grow hu3 (Nat.le_refl _)).more hu3.size)
    clear hb3 hu3 HU2 HI2
    go_wp2_with fail
    refine (rList_any w2.heap.size (gat ys) _ HB3.out (gat_lt ys)).mono ?_
    rintro e w4 ⟨v4, rfl, hv4, hu4⟩
    have HU4 := Lib.hid (HU3.out.trans hu4)
    obtain ⟨p4, c4, rfl, hi4, m4, _⟩ := own_ints hv4.1
    have HJ4 := Lib.hid hi4
    have HI4 := Lib.hid ((HI3.out.grow hu4 (Nat.le_refl _)).more hu4.size)
    clear hu4 hv4 hi4 HB3 HU3 HI3
    rw [HL.out]
    go_wp2_with fail
    go_ret2
    exact ⟨rfl, HU4.out⟩

set_option maxRecDepth 20000 in
set_option maxHeartbeats 800000 in
theorem rMul2_big (a : Option Addr) (len cap B : Nat) (xs : List Int) (a' : Option Addr) (len' cap' B' : Nat) (ys : List Int) (w : World) (hr : Ints w B a len xs) (hB : B ≤ w.heap.size) (hm : len ≤ maxLen)
    (hr' : Ints w B' a' len' ys) (hB' : B' ≤ w.heap.size) (hm' : len' ≤ maxLen) (s t : Nat) (hs1 : 2 ^ s ≤ gat xs) (hs2 : gat xs < 2 ^ (s + 1)) (ht1 : 2 ^ t ≤ gat ys) (ht2 : gat ys < 2 ^ (t + 1)) (hs : s ≤ 16384) (ht : t ≤ 16384) (hst : 16384 < s + t) :
    Calls Try.prog 45 #[.slice a len cap, .slice a' len' cap'] w fun e w' => e = .returned (.tuple #[.slice none 0 0, .bool false]) ∧ Upd noBlock w w' := by
  have HR := Lib.hid hr
  have HR' := Lib.hid hr'
  have HX := Lib.hid (exps_top (gat xs) s hs1 hs2 hs)
  have HY := Lib.hid (exps_top (gat ys) t ht1 ht2 ht)
  have t3 : decide ((16384 : Int) < (s : Int) + (t : Int)) = true := decide_eq_true (by omega)
  have t4 : IntKind.i64.wrap ((s : Int) + (t : Int)) = (s : Int) + (t : Int) := IntWalk.i64_in _ (by omega)
  clear hr hr' hs1 ht1 ht2 hs2 hst hs ht
  go_enter Try.func45, Try.ntmps45
  go_wp2_with fail
  refine (rBits_any a len cap B xs _ HR.out hB hm).mono ?_
  rintro e w1 ⟨rfl, hb1, hu1⟩
  have HB1 := Lib.hid hb1
  have HU1 := Lib.hid hu1
  clear hb1 hu1
  go_wp2_with fail
  refine (rList_any w.heap.size (gat xs) _ HB1.out (gat_lt xs)).mono ?_
  rintro e w2 ⟨v2, rfl, hv2, hu2⟩
  have HU2 := Lib.hid (HU1.out.trans hu2)
  obtain ⟨p2, c2, rfl, hi2, m2, _⟩ := own_ints hv2.1
  have HI2 := Lib.hid hi2
  clear hu2 hv2 hi2 HB1 HU1
  go_wp2_with fail
  refine (rBits_any a' len' cap' B' ys _ (HR'.out.grow HU2.out hB') (Nat.le_trans hB' HU2.out.size) hm').mono ?_
  rintro e w3 ⟨rfl, hb3, hu3⟩
  have HB3 := Lib.hid hb3
  have HU3 := Lib.hid (HU2.out.trans hu3)
  have HI3 := Lib.hid ((HI2.out.grow hu3 (Nat.le_refl _)).more hu3.size)
  clear hb3 hu3 HU2 HI2
  go_wp2_with fail
  refine (rList_any w2.heap.size (gat ys) _ HB3.out (gat_lt ys)).mono ?_
  rintro e w4 ⟨v4, rfl, hv4, hu4⟩
  have HU4 := Lib.hid (HU3.out.trans hu4)
  obtain ⟨p4, c4, rfl, hi4, m4, _⟩ := own_ints hv4.1
  have HJ4 := Lib.hid hi4
  have HI4 := Lib.hid ((HI3.out.grow hu4 (Nat.le_refl _)).more hu4.size)
  clear hu4 hv4 hi4 HB3 HU3 HI3
  obtain ⟨g1, o1, rfl, _, hc1⟩ := HI4.out.cell (by rw [HX.out]; simp)
  obtain ⟨g2, o2, rfl, _, hc2⟩ := HJ4.out.cell (by rw [HY.out]; simp)
  have d1 : w4.cell? ⟨g1, o1, none⟩ = some (.int .i64 (s : Int)) := by have := hc1 0 (by rw [HX.out]; simp); rw [HX.out] at this; exact this
  have d2 : w4.cell? ⟨g2, o2, none⟩ = some (.int .i64 (t : Int)) := by have := hc2 0 (by rw [HY.out]; simp); rw [HY.out] at this; exact this
  have hl1 : 0 < (exps (gat xs)).length := by rw [HX.out]; simp
  have hl2 : 0 < (exps (gat ys)).length := by rw [HY.out]; simp
  clear hc1 hc2 HI4 HJ4 HX HY m2 m4
  generalize (exps (gat xs)).length = n1 at *
  generalize (exps (gat ys)).length = n2 at *
  have t1 : ((n1 : Int) == 0) = false := beq_eq_false_iff_ne.2 (by omega)
  have t2 : ((n2 : Int) == 0) = false := beq_eq_false_iff_ne.2 (by omega)
  go_wp2_with fail
  go_quiet (fail)
  go_wp2_with fail
  go_ret2
  exact ⟨rfl, HU4.out.drewN _⟩

end Go.Proofs.Ytnimgkijodfjkaa
