/- Walks over package poly: has, and the exponents of coefficients. -/
import Derived.Test.YtpfmdlmnmagkmaaPb
import Derived.Test.YtpfmdlmnmagkmaaApp
import Derived.Test.YtpfmdlmnmagkmaaShelf
namespace Go.Proofs.Ytpfmdlmnmagkmaa
open Go.RowKit Pm

theorem bitLenAux_spec (f x : Nat) (h0 : 0 < x) (h : x < 2 ^ f) : ∃ t, Lib.bitLenAux f x = t + 1 ∧ 2 ^ t ≤ x ∧ x < 2 ^ (t + 1) := by
  induction f generalizing x with
  | zero => simp at h; omega
  | succ f ih =>
    unfold Lib.bitLenAux
    rw [if_neg (by omega)]
    by_cases h1 : x / 2 = 0
    · refine ⟨0, ?_, by simp; omega, by simp; omega⟩
      rw [h1]
      cases f <;> simp [Lib.bitLenAux]
    · obtain ⟨t, e, l, u⟩ := ih (x / 2) (by omega) (by rw [Nat.pow_succ] at h; omega)
      refine ⟨t + 1, by rw [e]; omega, ?_, ?_⟩
      · rw [Nat.pow_succ]; omega
      · rw [Nat.pow_succ]; omega
theorem bitLen_spec (x : Nat) (h0 : 0 < x) (h : x < 2 ^ 64) : ∃ t, t < 64 ∧ Lib.bitLen x = t + 1 ∧ 2 ^ t ≤ x ∧ x < 2 ^ (t + 1) := by
  obtain ⟨t, e, l, u⟩ := bitLenAux_spec 64 x h0 h
  refine ⟨t, ?_, e, l, u⟩
  rcases Nat.lt_or_ge t 64 with ht | ht
  · exact ht
  · have := Nat.pow_le_pow_right (n := 2) (by omega) ht
    omega

theorem exps_length (P : Nat) : (exps P).length ≤ 16385 := by
  have h : ∀ n, (lst n P).length ≤ n := by
    intro n
    induction n with
    | zero => exact Nat.le_refl _
    | succ n ih =>
      unfold lst
      split
      · rw [List.length_cons]; omega
      · omega
  exact h top

/-- the state within a word -/
structure Inner (P i W : Nat) (out : List Int) (Q : Nat) : Prop where
  same : out ++ exps Q = exps P
  wd : Q / 2 ^ (64 * i) = W
  rest : Q % 2 ^ (64 * i) = P % 2 ^ (64 * i)
  lt : Q < 2 ^ top
theorem Inner.start {P i : Nat} {out : List Int} (h : out ++ exps (P % 2 ^ (64 * (i + 1))) = exps P) (hP : P < 2 ^ top) : Inner P i (word P i) out (P % 2 ^ (64 * (i + 1))) := by
  refine ⟨h, ?_, ?_, Nat.lt_of_le_of_lt (Nat.mod_le _ _) hP⟩
  · apply Nat.eq_of_testBit_eq
    intro j
    rw [Nat.testBit_div_two_pow, Nat.testBit_mod_two_pow, word_bit, Nat.add_comm j]
    congr 1
    exact decide_eq_decide.2 (by omega)
  · apply Nat.eq_of_testBit_eq
    intro j
    rw [Nat.testBit_mod_two_pow, Nat.testBit_mod_two_pow, Nat.testBit_mod_two_pow]
    by_cases hj : j < 64 * i
    · have : j < 64 * (i + 1) := by omega
      simp [hj, this]
    · simp [hj]
theorem Inner.done {P i : Nat} {out : List Int} {Q : Nat} (h : Inner P i 0 out Q) : out ++ exps (P % 2 ^ (64 * i)) = exps P := by
  have e : Q = P % 2 ^ (64 * i) := by
    have := Nat.mod_add_div Q (2 ^ (64 * i))
    rw [h.wd, h.rest, Nat.mul_zero, Nat.add_zero] at this
    exact this.symm
  rw [← e]; exact h.same
theorem Inner.step {P i W : Nat} {out : List Int} {Q t : Nat} (h : Inner P i W out Q) (h1 : 2 ^ t ≤ W) (h2 : W < 2 ^ (t + 1)) :
    i * 64 + t ≤ 16384 ∧ Inner P i (W ^^^ 2 ^ t) (out ++ [((i * 64 + t : Nat) : Int)]) (Q ^^^ 2 ^ (i * 64 + t)) := by
  have hp := Nat.two_pow_pos (64 * i)
  have e : i * 64 + t = 64 * i + t := by omega
  have l1 : 2 ^ (i * 64 + t) ≤ Q := by
    have := Nat.mul_le_of_le_div _ _ _ (Nat.le_trans h1 (Nat.le_of_eq h.wd.symm))
    rw [e, Nat.pow_add, Nat.mul_comm]; exact this
  have l2 : Q < 2 ^ (i * 64 + t + 1) := by
    have := (Nat.div_lt_iff_lt_mul hp).1 (Nat.lt_of_le_of_lt (Nat.le_of_eq h.wd) h2)
    have e2 : i * 64 + t + 1 = (t + 1) + 64 * i := by omega
    rw [e2, Nat.pow_add]; exact this
  have ht : i * 64 + t ≤ 16384 := by
    rcases Nat.lt_or_ge 16384 (i * 64 + t) with hh | hh
    · have := Nat.pow_le_pow_right (n := 2) (by omega) (show top ≤ i * 64 + t by unfold top; omega)
      have := h.lt
      omega
    · exact hh
  refine ⟨ht, ?_, ?_, ?_, ?_⟩
  · rw [List.append_assoc, ← h.same, exps_top Q (i * 64 + t) l1 l2 ht]; rfl
  · rw [← h.wd]
    apply Nat.eq_of_testBit_eq
    intro j
    rw [Nat.testBit_div_two_pow, Nat.testBit_xor, Nat.testBit_xor, Nat.testBit_div_two_pow, Nat.testBit_two_pow, Nat.testBit_two_pow]
    congr 1
    exact decide_eq_decide.2 (by omega)
  · rw [← h.rest]
    apply Nat.eq_of_testBit_eq
    intro j
    rw [Nat.testBit_mod_two_pow, Nat.testBit_mod_two_pow, Nat.testBit_xor, Nat.testBit_two_pow]
    by_cases hj : j < 64 * i
    · have : decide (i * 64 + t = j) = false := by simp; omega
      simp [this]
    · simp [hj]
  · exact Nat.xor_lt_two_pow h.lt (Nat.pow_lt_pow_right (by omega) (by unfold top; omega))

theorem xor_top (P t : Nat) (h1 : 2 ^ t ≤ P) (h2 : P < 2 ^ (t + 1)) : P ^^^ 2 ^ t = P % 2 ^ t := by
  have hb : P.testBit t = true := by
    rw [Nat.testBit_eq_decide_div_mod_eq]
    have e : P / 2 ^ t = 1 := by
      have l1 : 1 ≤ P / 2 ^ t := (Nat.le_div_iff_mul_le (Nat.two_pow_pos t)).2 (by omega)
      have l2 : P / 2 ^ t < 2 := (Nat.div_lt_iff_lt_mul (Nat.two_pow_pos t)).2 (by rw [Nat.pow_succ] at h2; omega)
      omega
    rw [e]; rfl
  apply Nat.eq_of_testBit_eq
  intro i
  rw [Nat.testBit_xor, Nat.testBit_mod_two_pow, Nat.testBit_two_pow]
  rcases Nat.lt_trichotomy i t with hi | hi | hi
  · have : decide (t = i) = false := by simp; omega
    simp [hi, this]
  · subst hi; simp [hb]
  · have h3 : P.testBit i = false := Nat.testBit_lt_two_pow (Nat.lt_of_lt_of_le h2 (Nat.pow_le_pow_right (by omega) hi))
    have : decide (t = i) = false := by simp; omega
    rw [h3, this]; simp
theorem Upd.grownOwn {a b c : World} {v : Value} (h : Upd noBlock a b) (g : b.grownBy c v.ownBlock) (hv : ∀ k, v.ownBlock = some k → a.heap.size ≤ k) : Upd noBlock a c :=
  ⟨g.os.trans h.os, g.tape.trans h.tape, g.output.trans h.output, Nat.le_trans h.size g.size, fun i hi hn => (g.block i (Nat.lt_of_lt_of_le hi h.size) (fun e => by have := hv i e.symm; omega)).trans (h.block i hi hn)⟩
theorem len64_any (x : Nat) (w : World) (h : x < 2 ^ 64) :
    Calls Try.prog 82 #[.int .u64 (x : Int)] w fun e w' => e = .returned (.int .i64 ((Lib.bitLen x : Nat) : Int)) ∧ w = w' :=
  (Try.bits_Len64 (x : Int) w (by omega) (by omega)).mono fun e w' ⟨h1, h2⟩ => ⟨h1, h2.symm⟩
theorem mod_all (P : Nat) (h : P < 2 ^ top) : P % 2 ^ (64 * 257) = P := by
  have e : top ≤ 64 * 257 := by unfold top; omega
  generalize 64 * 257 = z at e
  exact Nat.mod_eq_of_lt (Nat.lt_of_lt_of_le h (Nat.pow_le_pow_right (by omega) e))
theorem intParts2 : ∃ i0, Try.prog.info? 3 = some i0 ∧ i0.zero = some (.int .i64 0) ∧ i0.size = 1 ∧ i0.bytes = 8 := by
  have intCells : (Try.prog.info? 3).map (fun i => (i.zero, i.size, i.bytes)) = some (some (.int .i64 0), 1, 8) := by kernel_rfl
  obtain ⟨i0, h1, h2⟩ := Option.map_eq_some_iff.1 intCells
  simp only [Prod.mk.injEq] at h2
  exact ⟨i0, h1, h2.1, h2.2.1, h2.2.2⟩

set_option maxRecDepth 20000 in
set_option maxHeartbeats 1600000 in
theorem poly_any (b P : Nat) (w : World) (hb : Coef w b P) (hP : P < 2 ^ top) :
    Calls Try.prog 67 #[.pointer (some ⟨b, 0, none⟩)] w fun e w' =>
      ∃ v, e = .returned v ∧ w'.ownsRow w.heap.size 3 1 v (exps P).length (vals (exps P)) ∧ Upd noBlock w w' := by
  obtain ⟨i0, hi0, hz0, hz1, hz2⟩ := intParts2
  have HB := Lib.hid hb
  have hbs := hb.lt
  have HP := Lib.hid hP
  clear hb hP
  go_enter Try.func67, Try.ntmps67
  go_wp2
  go_loopw [3, 4] (fun v i wr => ∃ (k : Nat) (out : List Int), k ≤ 257 ∧ i = .int .i64 ((k : Int) - 1) ∧ Hid (wr.ownsRow w.heap.size 3 1 v out.length (vals out)) ∧ Hid (out ++ exps (P % 2 ^ (64 * k)) = exps P) ∧ Hid (Upd noBlock w wr)) (fun _ i _ => (intOf i + 1).toNat)
  case atStart =>
    refine ⟨257, [], Nat.le_refl _, rfl, World.ownsRow_nil _ _ _ _, ?_, Upd.refl _ _⟩
    exact congrArg exps (mod_all P HP.out)
  case round =>
    obtain ⟨k, out, hk, rfl, HO, HE, HU⟩ := hrel
    by_cases h0 : 0 < k
    · obtain ⟨i, rfl⟩ : ∃ i, k = i + 1 := ⟨k - 1, by omega⟩
      have e1 : ((i + 1 : Nat) : Int) - 1 = (i : Int) := by omega
      rw [e1]
      have hb2 := HB.out.upd HU.out (fun h => h)
      have c1 := hb2.cell (i := i) (by omega)
      have HI := Lib.hid (Inner.start HE.out HP.out)
      have hwl := word_lt P i
      clear e1 hb2 HE
      go_wp2
      obtain ⟨wo, rfl⟩ : ∃ wo : World, wo = wr := ⟨_, rfl⟩
      go_loopw [3, 5] (fun v x wr => ∃ (out : List Int) (W Q : Nat), W < 2 ^ 64 ∧ x = .int .u64 (W : Int) ∧ Hid (wr.ownsRow w.heap.size 3 1 v out.length (vals out)) ∧ Hid (Inner P i W out Q) ∧ Hid (Upd noBlock w wr)) (fun _ x _ => (intOf x).toNat)
      case atStart => exact ⟨out, _, _, hwl, rfl, HO, HI, HU⟩
      case round =>
        clear HO HI HU hwl c1
        obtain ⟨out, W, Q, hW, rfl, HO, HI, HU⟩ := hrel
        by_cases hz : 0 < W
        · obtain ⟨t, ht64, hlen, hl, hu⟩ := bitLen_spec W hz hW
          obtain ⟨ht, hI2⟩ := HI.out.step hl hu
          have HI2 := Lib.hid hI2
          have t1 : ((W : Int) != 0) = true := by rw [bne_iff_ne]; omega
          have hx : bits .xor .u64 (W : Int) (IntKind.u64.wrap (2 ^ t)) = ((W ^^^ 2 ^ t : Nat) : Int) := by
            rw [u64_pow _ ht64, u64_xor_nat _ _ hW (Nat.pow_lt_pow_right (by omega) ht64)]
          have hlt : W ^^^ 2 ^ t < W := by
            have h1 := xor_top W t hl hu
            rw [h1]
            have := Nat.mod_lt W (Nat.two_pow_pos t)
            omega
          have hl2 : (out ++ [((i * 64 + t : Nat) : Int)]).length ≤ 16385 := by
            have h1 := congrArg List.length hI2.same
            rw [List.length_append] at h1
            have h2 := exps_length P
            omega
          have hl3 : out.length + 1 ≤ 16385 := by rw [List.length_append] at hl2; exact hl2
          have HL := Lib.hid hlen
          have HX := Lib.hid hx
          have HT := Lib.hid ht
          have HL3 := Lib.hid hl3
          have hi257 : i < 257 := by omega
          clear ht hl3 hk
          have hbase := HU.out.size
          clear hI2 hx hl2 hlen hl hu HI
          go_wp2_with fail
          refine (len64_any W _ hW).mono ?_
          rintro e w' ⟨rfl, rfl⟩
          rw [HL.out]
          have HIn : Hid (Ints (wr.alloc (.cells #[.int .i64 ((i : Int) * 64 + (t : Int))] 3)) (wr.heap.size + 1) (some ⟨wr.heap.size, 0, none⟩) 1 [((i : Int) * 64 + (t : Int))]) :=
            ⟨rfl, fun _ => ⟨wr.heap.size, 0, rfl, by omega, fun j hj => by
              obtain rfl : j = 0 := by omega
              rw [cell_of (heap_alloc_new wr _)]; rfl⟩⟩
          have HO2 := Lib.hid (HO.out.alloc (.cells #[.int .i64 ((i : Int) * 64 + (t : Int))] 3))
          have HU2 := Lib.hid (HU.out.alloc (.cells #[.int .i64 ((i : Int) * 64 + (t : Int))] 3))
          clear HU HO
          go_wp2_with (at_builtin; refine wpList_append_ints _ rfl (.tmp 21) (.tmp 26) _ rfl w.heap.size 3 i0 _ Try.underlying81 hi0 hz0 hz1 hz2 rfl _ out.length (vals out) rfl HO2.out (wr.heap.size + 1) (some ⟨wr.heap.size, 0, none⟩) 1 1 [((i : Int) * 64 + (t : Int))] rfl HIn.out (by have := HL3.out; simp only [maxLen]; omega) (by have := HL3.out; omega) (by simp; omega) ?_; intro v3 w3 hown3 hg3 _)
          go_roundw
          case rel =>
            have hs : ((i : Int) * 64 + (t : Int)) = ((i * 64 + t : Nat) : Int) := by omega
            rw [hs] at hown3
            refine ⟨out ++ [((i * 64 + t : Nat) : Int)], W ^^^ 2 ^ t, Q ^^^ 2 ^ (i * 64 + t), by omega, by rw [HX.out], ?_, HI2, ?_⟩
            · have e : (out ++ [((i * 64 + t : Nat) : Int)]).length = out.length + 1 := by simp
              have e2 : vals (out ++ [((i * 64 + t : Nat) : Int)]) = vals out ++ vals [((i * 64 + t : Nat) : Int)] := by simp [vals]
              rw [e, e2]
              exact hown3
            · exact HU2.out.grownOwn hg3 (fun k hk => (HO2.out.lt k hk).1)
          case measure =>
            rw [HX.out]
            simp [intOf]
            exact hlt
        · obtain rfl : W = 0 := by omega
          have HD := Lib.hid HI.out.done
          clear HI
          go_wp2
          go_roundw
          case rel => exact ⟨i, out, by omega, rfl, HO, HD, HU⟩
          case measure => simp [intOf]
    · obtain rfl : k = 0 := by omega
      have e1 : ((0 : Nat) : Int) - 1 = -1 := by omega
      rw [e1]
      have hout : out = exps P := by
        have := HE.out
        rw [Nat.mul_zero, Nat.pow_zero, Nat.mod_one, exps_zero, List.append_nil] at this
        exact this
      subst hout
      go_wp2
      go_ret
      exact ⟨_, rfl, HO.out, HU.out⟩
end Go.Proofs.Ytpfmdlmnmagkmaa
