import Derived.Test.YtoledgpcgjdjjaaGreatDoorQGPa
import Derived.Test.YtoledgpcgjdjjaaGreatDoorQApp
import Derived.Test.YtoledgpcgjdjjaaGreatDoorQShelf
/- Walks over package poly: has, and the exponents of coefficients. -/
namespace Go.Proofs.YtoledgpcgjdjjaaGreatDoor
open Go.RowKit Pm

theorem bitLenAux_spec (f x : Nat) (h0 : 0 < x) (h : x < 2 ^ f) : ∃ t, Lib.bitLenAux f x = t + 1 ∧ 2 ^ t ≤ x ∧ x < 2 ^ (t + 1) := by
  induction f generalizing x with
  | zero => simp at h; omega
  | succ f ih =>
    unfold Lib.bitLenAux
    rw [if_neg (by omega)]
    by_cases h1 : x / 2 = 0
    · refine ⟨0, ?_, by simp; omega, by simp; omega⟩
      rw [h1]
      cases f <;> simp [Lib.bitLenAux]
    · obtain ⟨t, e, l, u⟩ := ih (x / 2) (by omega) (by rw [Nat.pow_succ] at h; omega)
      refine ⟨t + 1, by rw [e]; omega, ?_, ?_⟩
      · rw [Nat.pow_succ]; omega
      · rw [Nat.pow_succ]; omega
theorem bitLen_spec (x : Nat) (h0 : 0 < x) (h : x < 2 ^ 64) : ∃ t, t < 64 ∧ Lib.bitLen x = t + 1 ∧ 2 ^ t ≤ x ∧ x < 2 ^ (t + 1) := by
  obtain ⟨t, e, l, u⟩ := bitLenAux_spec 64 x h0 h
  refine ⟨t, ?_, e, l, u⟩
  rcases Nat.lt_or_ge t 64 with ht | ht
  · exact ht
  · have := Nat.pow_le_pow_right (n := 2) (by omega) ht
    omega

theorem exps_length (P : Nat) : (exps P).length ≤ 16385 := by
  have h : ∀ n, (lst n P).length ≤ n := by
    intro n
    induction n with
    | zero => exact Nat.le_refl _
    | succ n ih =>
      unfold lst
      split
      · rw [List.length_cons]; omega
      · omega
  exact h top

structure Inner (P i W : Nat) (out : List Int) (Q : Nat) : Prop where
  same : out ++ exps Q = exps P
  wd : Q / 2 ^ (64 * i) = W
  rest : Q % 2 ^ (64 * i) = P % 2 ^ (64 * i)
  lt : Q < 2 ^ top
theorem Inner.start {P i : Nat} {out : List Int} (h : out ++ exps (P % 2 ^ (64 * (i + 1))) = exps P) (hP : P < 2 ^ top) : Inner P i (word P i) out (P % 2 ^ (64 * (i + 1))) := by
  refine ⟨h, ?_, ?_, Nat.lt_of_le_of_lt (Nat.mod_le _ _) hP⟩
  · apply Nat.eq_of_testBit_eq
    intro j
    rw [Nat.testBit_div_two_pow, Nat.testBit_mod_two_pow, word_bit, Nat.add_comm j]
    congr 1
    exact decide_eq_decide.2 (by omega)
  · apply Nat.eq_of_testBit_eq
    intro j
    rw [Nat.testBit_mod_two_pow, Nat.testBit_mod_two_pow, Nat.testBit_mod_two_pow]
    by_cases hj : j < 64 * i
    · have : j < 64 * (i + 1) := by omega
      simp [hj, this]
    · simp [hj]
theorem Inner.done {P i : Nat} {out : List Int} {Q : Nat} (h : Inner P i 0 out Q) : out ++ exps (P % 2 ^ (64 * i)) = exps P := by
  have e : Q = P % 2 ^ (64 * i) := by
    have := Nat.mod_add_div Q (2 ^ (64 * i))
    rw [h.wd, h.rest, Nat.mul_zero, Nat.add_zero] at this
    exact this.symm
  rw [← e]; exact h.same
theorem Inner.step {P i W : Nat} {out : List Int} {Q t : Nat} (h : Inner P i W out Q) (h1 : 2 ^ t ≤ W) (h2 : W < 2 ^ (t + 1)) :
    i * 64 + t ≤ 16384 ∧ Inner P i (W ^^^ 2 ^ t) (out ++ [((i * 64 + t : Nat) : Int)]) (Q ^^^ 2 ^ (i * 64 + t)) := by
  have hp := Nat.two_pow_pos (64 * i)
  have e : i * 64 + t = 64 * i + t := by omega
  have l1 : 2 ^ (i * 64 + t) ≤ Q := by
    have := Nat.mul_le_of_le_div _ _ _ (Nat.le_trans h1 (Nat.le_of_eq h.wd.symm))
    rw [e, Nat.pow_add, Nat.mul_comm]; exact this
  have l2 : Q < 2 ^ (i * 64 + t + 1) := by
    have := (Nat.div_lt_iff_lt_mul hp).1 (Nat.lt_of_le_of_lt (Nat.le_of_eq h.wd) h2)
    have e2 : i * 64 + t + 1 = (t + 1) + 64 * i := by omega
    rw [e2, Nat.pow_add]; exact this
  have ht : i * 64 + t ≤ 16384 := by
    rcases Nat.lt_or_ge 16384 (i * 64 + t) with hh | hh
    · have := Nat.pow_le_pow_right (n := 2) (by omega) (show top ≤ i * 64 + t by unfold top; omega)
      have := h.lt
      omega
    · exact hh
  refine ⟨ht, ?_, ?_, ?_, ?_⟩
  · rw [List.append_assoc, ← h.same, exps_top Q (i * 64 + t) l1 l2 ht]; rfl
  · rw [← h.wd]
    apply Nat.eq_of_testBit_eq
    intro j
    rw [Nat.testBit_div_two_pow, Nat.testBit_xor, Nat.testBit_xor, Nat.testBit_div_two_pow, Nat.testBit_two_pow, Nat.testBit_two_pow]
    congr 1
    exact decide_eq_decide.2 (by omega)
  · rw [← h.rest]
    apply Nat.eq_of_testBit_eq
    intro j
    rw [Nat.testBit_mod_two_pow, Nat.testBit_mod_two_pow, Nat.testBit_xor, Nat.testBit_two_pow]
    by_cases hj : j < 64 * i
    · have : decide (i * 64 + t = j) = false := by simp; omega
      simp [this]
    · simp [hj]
  · exact Nat.xor_lt_two_pow h.lt (Nat.pow_lt_pow_right (by omega) (by unfold top; omega))

theorem xor_top (P t : Nat) (h1 : 2 ^ t ≤ P) (h2 : P < 2 ^ (t + 1)) : P ^^^ 2 ^ t = P % 2 ^ t := by
  have hb : P.testBit t = true := by
    rw [Nat.testBit_eq_decide_div_mod_eq]
    have e : P / 2 ^ t = 1 := by
      have l1 : 1 ≤ P / 2 ^ t := (Nat.le_div_iff_mul_le (Nat.two_pow_pos t)).2 (by omega)
      have l2 : P / 2 ^ t < 2 := (Nat.div_lt_iff_lt_mul (Nat.two_pow_pos t)).2 (by rw [Nat.pow_succ] at h2; omega)
      omega
    rw [e]; rfl
  apply Nat.eq_of_testBit_eq
  intro i
  rw [Nat.testBit_xor, Nat.testBit_mod_two_pow, Nat.testBit_two_pow]
  rcases Nat.lt_trichotomy i t with hi | hi | hi
  · have : decide (t = i) = false := by simp; omega
    simp [hi, this]
  · subst hi; simp [hb]
  · have h3 : P.testBit i = false := Nat.testBit_lt_two_pow (Nat.lt_of_lt_of_le h2 (Nat.pow_le_pow_right (by omega) hi))
    have : decide (t = i) = false := by simp; omega
    rw [h3, this]; simp
theorem Upd.grownOwn {a b c : World} {v : Value} (h : Upd noBlock a b) (g : b.grownBy c v.ownBlock) (hv : ∀ k, v.ownBlock = some k → a.heap.size ≤ k) : Upd noBlock a c :=
  ⟨g.os.trans h.os, g.tape.trans h.tape, g.output.trans h.output, Nat.le_trans h.size g.size, fun i hi hn => (g.block i (Nat.lt_of_lt_of_le hi h.size) (fun e => by have := hv i e.symm; omega)).trans (h.block i hi hn)⟩
theorem len64_any (x : Nat) (w : World) (h : x < 2 ^ 64) :
    Calls Tryz.prog 139 #[.int .u64 (x : Int)] w fun e w' => e = .returned (.int .i64 ((Lib.bitLen x : Nat) : Int)) ∧ w = w' :=
  (Tryz.bits_Len64 (x : Int) w (by omega) (by omega)).mono fun e w' ⟨h1, h2⟩ => ⟨h1, h2.symm⟩
theorem mod_all (P : Nat) (h : P < 2 ^ top) : P % 2 ^ (64 * 257) = P := by
  have e : top ≤ 64 * 257 := by unfold top; omega
  generalize 64 * 257 = z at e
  exact Nat.mod_eq_of_lt (Nat.lt_of_lt_of_le h (Nat.pow_le_pow_right (by omega) e))
theorem intParts2 : ∃ i0, Tryz.prog.info? 3 = some i0 ∧ i0.zero = some (.int .i64 0) ∧ i0.size = 1 ∧ i0.bytes = 8 := by
  have intCells : (Tryz.prog.info? 3).map (fun i => (i.zero, i.size, i.bytes)) = some (some (.int .i64 0), 1, 8) := by kernel_rfl
  obtain ⟨i0, h1, h2⟩ := Option.map_eq_some_iff.1 intCells
  simp only [Prod.mk.injEq] at h2
  exact ⟨i0, h1, h2.1, h2.2.1, h2.2.2⟩

set_option maxRecDepth 20000 in
set_option maxHeartbeats 1600000 in
theorem poly_any (b P : Nat) (w : World) (hb : Coef w b P) (hP : P < 2 ^ top) :
    Calls Tryz.prog 193 #[.pointer (some ⟨b, 0, none⟩)] w fun e w' =>
      ∃ v, e = .returned v ∧ w'.ownsRow w.heap.size 3 1 v (exps P).length (vals (exps P)) ∧ Upd noBlock w w' := by
  obtain ⟨i0, hi0, hz0, hz1, hz2⟩ := intParts2
  have HB := Lib.hid hb
  have hbs := hb.lt
  have HP := Lib.hid hP
  clear hb hP
  go_enter Tryz.func193, Tryz.ntmps193
  go_wp2
  go_loopw [3, 4] (fun v i wr => ∃ (k : Nat) (out : List Int), k ≤ 257 ∧ i = .int .i64 ((k : Int) - 1) ∧ Hid (wr.ownsRow w.heap.size 3 1 v out.length (vals out)) ∧ Hid (out ++ exps (P % 2 ^ (64 * k)) = exps P) ∧ Hid (Upd noBlock w wr)) (fun _ i _ => (intOf i + 1).toNat)
  case atStart =>
    refine ⟨257, [], Nat.le_refl _, rfl, World.ownsRow_nil _ _ _ _, ?_, Upd.refl _ _⟩
    exact congrArg exps (mod_all P HP.out)
  case round =>
    obtain ⟨k, out, hk, rfl, HO, HE, HU⟩ := hrel
    by_cases h0 : 0 < k
    · obtain ⟨i, rfl⟩ : ∃ i, k = i + 1 := ⟨k - 1, by omega⟩
      have e1 : ((i + 1 : Nat) : Int) - 1 = (i : Int) := by omega
      rw [e1]
      have hb2 := HB.out.upd HU.out (fun h => h)
      have c1 := hb2.cell (i := i) (by omega)
      have HI := Lib.hid (Inner.start HE.out HP.out)
      have hwl := word_lt P i
      clear e1 hb2 HE
      go_wp2
      obtain ⟨wo, rfl⟩ : ∃ wo : World, wo = wr := ⟨_, rfl⟩
      go_loopw [3, 5] (fun v x wr => ∃ (out : List Int) (W Q : Nat), W < 2 ^ 64 ∧ x = .int .u64 (W : Int) ∧ Hid (wr.ownsRow w.heap.size 3 1 v out.length (vals out)) ∧ Hid (Inner P i W out Q) ∧ Hid (Upd noBlock w wr)) (fun _ x _ => (intOf x).toNat)
      case atStart => exact ⟨out, _, _, hwl, rfl, HO, HI, HU⟩
      case round =>
        clear HO HI HU hwl c1
        obtain ⟨out, W, Q, hW, rfl, HO, HI, HU⟩ := hrel
        by_cases hz : 0 < W
        · obtain ⟨t, ht64, hlen, hl, hu⟩ := bitLen_spec W hz hW
          obtain ⟨ht, hI2⟩ := HI.out.step hl hu
          have HI2 := Lib.hid hI2
          have t1 : ((W : Int) != 0) = true := by rw [bne_iff_ne]; omega
          have hx : bits .xor .u64 (W : Int) (IntKind.u64.wrap (2 ^ t)) = ((W ^^^ 2 ^ t : Nat) : Int) := by
            rw [u64_pow _ ht64, u64_xor_nat _ _ hW (Nat.pow_lt_pow_right (by omega) ht64)]
          have hlt : W ^^^ 2 ^ t < W := by
            have h1 := xor_top W t hl hu
            rw [h1]
            have := Nat.mod_lt W (Nat.two_pow_pos t)
            omega
          have hl2 : (out ++ [((i * 64 + t : Nat) : Int)]).length ≤ 16385 := by
            have h1 := congrArg List.length hI2.same
            rw [List.length_append] at h1
            have h2 := exps_length P
            omega
          have hl3 : out.length + 1 ≤ 16385 := by rw [List.length_append] at hl2; exact hl2
          have HL := Lib.hid hlen
          have HX := Lib.hid hx
          have HT := Lib.hid ht
          have HL3 := Lib.hid hl3
          have hi257 : i < 257 := by omega
          clear ht hl3 hk
          have hbase := HU.out.size
          clear hI2 hx hl2 hlen hl hu HI
          go_wp2_with fail
          refine (len64_any W _ hW).mono ?_
          rintro e w' ⟨rfl, rfl⟩
          rw [HL.out]
          have HIn : Hid (Ints (wr.alloc (.cells #[.int .i64 ((i : Int) * 64 + (t : Int))] 3)) (wr.heap.size + 1) (some ⟨wr.heap.size, 0, none⟩) 1 [((i : Int) * 64 + (t : Int))]) :=
            ⟨rfl, fun _ => ⟨wr.heap.size, 0, rfl, by omega, fun j hj => by
              obtain rfl : j = 0 := by omega
              rw [cell_of (heap_alloc_new wr _)]; rfl⟩⟩
          have HO2 := Lib.hid (HO.out.alloc (.cells #[.int .i64 ((i : Int) * 64 + (t : Int))] 3))
          have HU2 := Lib.hid (HU.out.alloc (.cells #[.int .i64 ((i : Int) * 64 + (t : Int))] 3))
          clear HU HO
          go_wp2_with (at_builtin; refine wpList_append_ints _ rfl (.tmp 21) (.tmp 26) _ rfl w.heap.size 3 i0 _ Tryz.underlying200 hi0 hz0 hz1 hz2 rfl _ out.length (vals out) rfl HO2.out (wr.heap.size + 1) (some ⟨wr.heap.size, 0, none⟩) 1 1 [((i : Int) * 64 + (t : Int))] rfl HIn.out (by have := HL3.out; simp only [maxLen]; omega) (by have := HL3.out; omega) (by simp; omega) ?_; intro v3 w3 hown3 hg3 _)
          go_roundw
          case rel =>
            have hs : ((i : Int) * 64 + (t : Int)) = ((i * 64 + t : Nat) : Int) := by omega
            rw [hs] at hown3
            refine ⟨out ++ [((i * 64 + t : Nat) : Int)], W ^^^ 2 ^ t, Q ^^^ 2 ^ (i * 64 + t), by omega, by rw [HX.out], ?_, HI2, ?_⟩
            · have e : (out ++ [((i * 64 + t : Nat) : Int)]).length = out.length + 1 := by simp
              have e2 : vals (out ++ [((i * 64 + t : Nat) : Int)]) = vals out ++ vals [((i * 64 + t : Nat) : Int)] := by simp [vals]
              rw [e, e2]
              exact hown3
            · exact HU2.out.grownOwn hg3 (fun k hk => (HO2.out.lt k hk).1)
          case measure =>
            rw [HX.out]
            simp [intOf]
            exact hlt
        · obtain rfl : W = 0 := by omega
          have HD := Lib.hid HI.out.done
          clear HI
          go_wp2
          go_roundw
          case rel => exact ⟨i, out, by omega, rfl, HO, HD, HU⟩
          case measure => simp [intOf]
    · obtain rfl : k = 0 := by omega
      have e1 : ((0 : Nat) : Int) - 1 = -1 := by omega
      rw [e1]
      have hout : out = exps P := by
        have := HE.out
        rw [Nat.mul_zero, Nat.pow_zero, Nat.mod_one, exps_zero, List.append_nil] at this
        exact this
      subst hout
      go_wp2
      go_ret
      exact ⟨_, rfl, HO.out, HU.out⟩
end Go.Proofs.YtoledgpcgjdjjaaGreatDoor

/- Walks over package poly: Of, Add, Mul, Mod. -/
namespace Go.Proofs.YtoledgpcgjdjjaaGreatDoor
open Go.RowKit Pm

theorem own_more {w : World} {base base' e n : Nat} {v : Value} {xs : List Value} (h : w.ownsRow base' e 1 v n xs) (hb : base ≤ base') : w.ownsRow base e 1 v n xs := by
  refine ⟨h.1, ?_⟩
  rcases h.2 with h | ⟨g, cap, cur, h1, h2, h3⟩
  · exact .inl h
  · exact .inr ⟨g, cap, cur, h1, Nat.le_trans hb h2, h3⟩
def PolyV (w0 w : World) (v : Value) (P : Nat) : Prop := w.ownsRow w0.heap.size 3 1 v (exps P).length (vals (exps P)) ∧ P < 2 ^ top
theorem Coef.row {w : World} {g P Q : Nat} (h : Coef w g P) : Coef (w.setRow g (wordsA Q)) g Q := setRow_heap _ _ _ _ _ _ h
theorem Coef.rowOther {w : World} {g b P : Nat} (h : Coef w b P) (hne : ¬ b = g) (cs : Array Value) : Coef (w.setRow g cs) b P := (setRow_other w g b cs hne).trans h

set_option maxRecDepth 20000 in
set_option maxHeartbeats 800000 in
theorem of_any (a : Option Addr) (len cap B : Nat) (xs : List Int) (w : World) (hr : Ints w B a len xs) (hB : B ≤ w.heap.size) (hm : len ≤ maxLen) :
    Calls Tryz.prog 145 #[.slice a len cap] w fun e w' => ∃ v, e = .returned v ∧ PolyV w w' v (gat xs) ∧ Upd noBlock w w' := by
  have HR := Lib.hid hr
  clear hr
  go_enter Tryz.func145, Tryz.ntmps145
  go_wp2_with fail
  refine (gather_any a len cap B xs _ HR.out hB hm).mono ?_
  rintro e w1 ⟨rfl, HU0⟩
  have HU := Lib.hid HU0
  have HC := Lib.hid (Coef.new w1)
  clear HU0
  go_wp2_with (refine wpList_store_row rfl 279 _ _ rfl w1.heap.size (wordsA (gat xs)) rfl rfl 279 (wordsA 0) HC.out (wordsA_info _) (by rw [wordsA_size, wordsA_size]) (wordsA_one _) ?_)
  have HC2 := Lib.hid (HC.out.row (Q := gat xs))
  have HU2 := Lib.hid ((HU.out.alloc (.cells Tryz.zeroCells279 279)).setRow (g := w1.heap.size) (.inr HU.out.size) (wordsA (gat xs)))
  refine (poly_any w1.heap.size (gat xs) _ HC2.out (gat_lt xs)).mono ?_
  rintro e w3 ⟨v, rfl, ho, hu⟩
  have HO := Lib.hid (own_more ho HU2.out.size)
  have HU3 := Lib.hid (HU2.out.trans hu)
  clear ho hu
  go_wp2_with fail
  go_ret
  exact ⟨_, rfl, ⟨HO.out, gat_lt xs⟩, HU3.out⟩

end Go.Proofs.YtoledgpcgjdjjaaGreatDoor

/- Walks over package poly: Mul. -/
namespace Go.Proofs.YtoledgpcgjdjjaaGreatDoor
open Go.RowKit Pm

theorem exps_mem (e : Int) (Q t : Nat) (h : e ∈ exps Q) (hQ : Q < 2 ^ (t + 1)) (ht : t ≤ 16384) : 0 ≤ e ∧ e ≤ t := by
  have e1 : exps Q = lst (t + 1) Q := lst_up _ _ _ hQ (by unfold top; omega)
  rw [e1] at h
  have := lst_bound (t + 1) Q e h
  omega

def cm (l : List Int) (B : Nat) : Nat := l.foldl (fun P e => P ^^^ B * 2 ^ e.toNat) 0
theorem cm_take (l : List Int) (B k : Nat) (h : k < l.length) : cm (l.take (k + 1)) B = cm (l.take k) B ^^^ B * 2 ^ (l.getD k 0).toNat := by
  rw [List.take_succ_eq_append_getElem h]
  unfold cm
  rw [List.foldl_append]
  have e : l.getD k 0 = l[k] := by rw [List.getD_eq_getElem?_getD, List.getElem?_eq_getElem h]; rfl
  rw [e]; rfl
theorem cm_lt (l : List Int) (B s n : Nat) (hB : B < 2 ^ (s + 1)) (h : ∀ e ∈ l, e.toNat + s + 1 ≤ n) : cm l B < 2 ^ n := by
  have key : ∀ (l : List Int) (P : Nat), P < 2 ^ n → (∀ e ∈ l, e.toNat + s + 1 ≤ n) → l.foldl (fun P e => P ^^^ B * 2 ^ e.toNat) P < 2 ^ n := by
    intro l
    induction l with
    | nil => intro P hP _; exact hP
    | cons e l ih =>
      intro P hP hl
      refine ih _ (Nat.xor_lt_two_pow hP ?_) (fun x hx => hl x (List.mem_cons_of_mem _ hx))
      have h1 := hl e List.mem_cons_self
      have h2 : B * 2 ^ e.toNat < 2 ^ (s + 1) * 2 ^ e.toNat := Nat.mul_lt_mul_of_pos_right hB (Nat.two_pow_pos _)
      rw [← Nat.pow_add] at h2
      exact Nat.lt_of_lt_of_le h2 (Nat.pow_le_pow_right (by omega) (by omega))
  exact key l 0 (Nat.two_pow_pos _) h

def pmul (A B : Nat) : Nat := cm (exps A) B

set_option maxRecDepth 20000 in
set_option maxHeartbeats 1600000 in
theorem pmul_ok (a : Option Addr) (len cap B : Nat) (xs : List Int) (a' : Option Addr) (len' cap' B' : Nat) (ys : List Int) (w : World) (hr : Ints w B a len xs) (hB : B ≤ w.heap.size) (hm : len ≤ maxLen)
    (hr' : Ints w B' a' len' ys) (hB' : B' ≤ w.heap.size) (hm' : len' ≤ maxLen) (s t : Nat) (hs1 : 2 ^ s ≤ gat xs) (hs2 : gat xs < 2 ^ (s + 1)) (ht1 : 2 ^ t ≤ gat ys) (ht2 : gat ys < 2 ^ (t + 1)) (hst : s + t ≤ 16384) :
    Calls Tryz.prog 146 #[.slice a len cap, .slice a' len' cap'] w fun e w' => ∃ v, e = .returned (.tuple #[v, .bool true]) ∧ PolyV w w' v (pmul (gat xs) (gat ys)) ∧ Upd noBlock w w' := by
  have HR := Lib.hid hr
  have HR' := Lib.hid hr'
  have hp : pmul (gat xs) (gat ys) < 2 ^ top := cm_lt _ _ t _ ht2 (fun e he => by
    have := exps_mem e _ s he hs2 (by omega)
    unfold top; omega)
  have HP := Lib.hid hp
  have hx := exps_top (gat xs) s hs1 hs2 (by omega)
  have hy := exps_top (gat ys) t ht1 ht2 (by omega)
  have HX := Lib.hid hx
  have HY := Lib.hid hy
  have HS2 := Lib.hid hs2
  clear hr hr' hp hx hy hs1 ht1 ht2 hs2
  go_enter Tryz.func146, Tryz.ntmps146
  go_wp2_with fail
  refine (of_any a len cap B xs _ HR.out hB hm).mono ?_
  rintro e w1 ⟨v1, rfl, hv1, hu1⟩
  have HU1 := Lib.hid hu1
  have HV1 := Lib.hid hv1
  clear hu1 hv1
  go_wp2_with fail
  refine (of_any a' len' cap' B' ys _ (HR'.out.grow HU1.out hB') (Nat.le_trans hB' HU1.out.size) hm').mono ?_
  rintro e w2 ⟨v2, rfl, hv2, hu2⟩
  have HU2 := Lib.hid (HU1.out.trans hu2)
  have hsz12 := hu2.size
  obtain ⟨p1, c1, rfl, hi1, hm1, hb1⟩ := own_ints HV1.out.1
  obtain ⟨p2, c2, rfl, hi2, hm2, hb2⟩ := own_ints hv2.1
  have hi1' := hi1.grow hu2 (Nat.le_refl _)
  obtain ⟨g1, o1, rfl, hg1, hc1⟩ := hi1'.cell (by rw [HX.out]; simp)
  obtain ⟨g2, o2, rfl, hg2, hc2⟩ := hi2.cell (by rw [HY.out]; simp)
  have d1 : w2.cell? ⟨g1, o1, none⟩ = some (.int .i64 (s : Int)) := by have := hc1 0 (by rw [HX.out]; simp); rw [HX.out] at this; exact this
  have d2 : w2.cell? ⟨g2, o2, none⟩ = some (.int .i64 (t : Int)) := by have := hc2 0 (by rw [HY.out]; simp); rw [HY.out] at this; exact this
  have hl1 : 0 < (exps (gat xs)).length := by rw [HX.out]; simp
  have hl2 : 0 < (exps (gat ys)).length := by rw [HY.out]; simp
  have HI1 := Lib.hid hi1'
  have HI2 := Lib.hid hi2
  clear hi1 hi1' hi2 hb1 hb2 hc1 hc2 hu2 hv2 HV1
  generalize hn1 : (exps (gat xs)).length = n1 at *
  generalize hn2 : (exps (gat ys)).length = n2 at *
  have HN1 := Lib.hid hn1
  have HN2 := Lib.hid hn2
  clear hn1 hn2
  have t1 : ((n1 : Int) == 0) = false := beq_eq_false_iff_ne.2 (by omega)
  have t2 : ((n2 : Int) == 0) = false := beq_eq_false_iff_ne.2 (by omega)
  have t3 : decide ((16384 : Int) < (s : Int) + (t : Int)) = false := by simp; omega
  have t4 : IntKind.i64.wrap ((s : Int) + (t : Int)) = (s : Int) + (t : Int) := IntWalk.i64_in _ (by omega)
  have HST := Lib.hid hst
  clear hst
  go_wp2_with fail
  go_quiet (fail)
  have HC : Hid (Coef ((w2.alloc (.cells Tryz.zeroCells279 279)).drewN nq) w2.heap.size 0) := Coef.new w2
  have HU3 : Hid (Upd noBlock w ((w2.alloc (.cells Tryz.zeroCells279 279)).drewN nq)) := (HU2.out.alloc _).drewN nq
  have HI3 : Hid (Ints ((w2.alloc (.cells Tryz.zeroCells279 279)).drewN nq) w1.heap.size (some ⟨g1, o1, none⟩) n1 (exps (gat xs))) := HI1.out.grow (((Upd.refl noBlock w2).alloc _).drewN nq) (by omega)
  have HI4 : Hid (Ints ((w2.alloc (.cells Tryz.zeroCells279 279)).drewN nq) w2.heap.size (some ⟨g2, o2, none⟩) n2 (exps (gat ys))) := HI2.out.grow (((Upd.refl noBlock w2).alloc _).drewN nq) (Nat.le_refl _)
  have hsz2 := HU2.out.size
  clear HI1 HI2 d1 d2
  go_wp2_with fail
  refine (gather_any _ n2 c2 w2.heap.size (exps (gat ys)) _ HI4.out (by simp) hm2).mono ?_
  rintro e w4 ⟨rfl, hu4⟩
  rw [gat_exps _ (gat_lt ys)]
  have hsz4 := hu4.size
  have hsz5 : w2.heap.size + 1 ≤ w4.heap.size := by simpa using hsz4
  have HC4 := Lib.hid ((HC.out.upd hu4 (fun h => h)).alloc (.cells Tryz.zeroCells279 279))
  have HD4 := Lib.hid (Coef.new w4)
  have HU4 := Lib.hid ((HU3.out.trans hu4).alloc (.cells Tryz.zeroCells279 279))
  have HI5 := Lib.hid ((HI3.out.grow hu4 (by simp; omega)).grow ((Upd.refl noBlock w4).alloc (.cells Tryz.zeroCells279 279)) (by omega))
  clear hu4 hsz4 HI4 HI3 HC HU3
  go_wp2_with (refine wpList_store_row rfl 279 (.tmp 7) (.tmp 31) rfl w4.heap.size (wordsA (gat ys)) rfl rfl 279 (wordsA 0) HD4.out (wordsA_info _) (by rw [wordsA_size, wordsA_size]) (wordsA_one _) ?_)
  have HC5 := Lib.hid (HC4.out.rowOther (g := w4.heap.size) (by omega) (wordsA (gat ys)))
  have HD5 := Lib.hid (HD4.out.row (Q := gat ys))
  have HI6 := Lib.hid (HI5.out.keep (w' := (w4.alloc (.cells Tryz.zeroCells279 279)).setRow w4.heap.size (wordsA (gat ys))) (fun g _ hg => setRow_other _ _ _ _ (by omega)))
  have HU5 := Lib.hid (HU4.out.setRow (g := w4.heap.size) (.inr (by omega)) (wordsA (gat ys)))
  have hmem : ∀ k, k < n1 → 0 ≤ (exps (gat xs)).getD k 0 ∧ (exps (gat xs)).getD k 0 ≤ 16384 := fun k hk => by
    have hl : k < (exps (gat xs)).length := by rw [HN1.out]; exact hk
    have e : (exps (gat xs)).getD k 0 = (exps (gat xs))[k] := by rw [List.getD_eq_getElem?_getD, List.getElem?_eq_getElem hl]; rfl
    have h := exps_mem _ (gat xs) s (List.getElem_mem hl) HS2.out (by have := HST.out; omega)
    rw [e]
    have := HST.out
    omega
  have HM := Lib.hid hmem
  have hn1 : n1 ≤ 9223372036854775807 := by unfold maxLen at hm1; omega
  clear hmem HC4 HD4 HI5 HU4 hm1 hm2 HU2 t3 t4
  go_loopw [34] (fun i wr => ∃ k : Nat, k ≤ n1 ∧ i = .int .i64 (k : Int) ∧ Hid (Coef wr w2.heap.size (cm ((exps (gat xs)).take k) (gat ys))) ∧ Hid (Coef wr w4.heap.size (gat ys)) ∧ Hid (Ints wr w1.heap.size (some ⟨g1, o1, none⟩) n1 (exps (gat xs))) ∧ Hid (Upd noBlock w wr)) (fun i _ => n1 - (intOf i).toNat)
  case atStart => exact ⟨0, Nat.zero_le _, rfl, HC5, HD5, HI6, HU5⟩
  case round =>
    clear HC5 HD5 HI6 HU5
    obtain ⟨k, hk, rfl, HC, HD, HI, HU⟩ := hrel
    by_cases h0 : k < n1
    · obtain ⟨g', o', hgo, hg', hcell⟩ := HI.out.cell (by omega)
      obtain ⟨rfl, rfl⟩ : g1 = g' ∧ o1 = o' := by simpa using hgo
      have c1 := hcell k h0
      have hm := HM.out k h0
      have hstep := cm_take (exps (gat xs)) (gat ys) k (by rw [HN1.out]; exact h0)
      generalize (exps (gat xs)).getD k 0 = z at c1 hm hstep
      obtain ⟨m, rfl⟩ := Int.eq_ofNat_of_zero_le hm.1
      have HM16 : Hid (m ≤ 16384) := by have := hm.2; show m ≤ 16384; omega
      rw [Int.toNat_natCast] at hstep
      have HS := Lib.hid hstep
      clear hstep hm hcell hgo
      go_wp2_with fail
      refine (add_any w2.heap.size w4.heap.size _ _ m _ HC.out HD.out (by omega) HM16.out).mono ?_
      rintro e w5 ⟨rfl, hc, hd, hu⟩
      have HC5 : Hid (Coef w5 w2.heap.size (cm ((exps (gat xs)).take (k + 1)) (gat ys))) := by rw [HS.out]; exact hc
      have HD5 := Lib.hid hd
      have HI5 := Lib.hid (HI.out.upd hu (by have := HC.out.lt; omega) (fun g hg hgB e => by have e' : g = w2.heap.size := e; omega))
      have HU5 := Lib.hid (HU.out.step hu (fun i hi e => by have e' : i = w2.heap.size := e; omega))
      clear hc hd hu
      go_wp2_with fail
      go_roundw
      case rel => exact ⟨k + 1, by omega, by go_num, HC5, HD5, HI5, HU5⟩
      case measure => simp [intOf]; omega
    · obtain rfl : k = n1 := by omega
      have e : cm ((exps (gat xs)).take k) (gat ys) = pmul (gat xs) (gat ys) := by
        rw [List.take_of_length_le (by have := HN1.out; omega)]; rfl
      rw [e] at HC
      clear e HI
      go_wp2_with fail
      refine (poly_any w2.heap.size _ _ HC.out HP.out).mono ?_
      rintro e w5 ⟨v, rfl, ho, hu⟩
      have HO := Lib.hid (own_more ho HU.out.size)
      have HU5 := Lib.hid (HU.out.trans hu)
      clear ho hu
      go_wp2_with fail
      go_ret2
      exact ⟨_, rfl, ⟨HO.out, HP.out⟩, HU5.out⟩
end Go.Proofs.YtoledgpcgjdjjaaGreatDoor

/- Walks over package poly: Mul where nothing or too much comes out; Mod. -/
namespace Go.Proofs.YtoledgpcgjdjjaaGreatDoor
open Go.RowKit Pm

def rm (D d : Nat) : Nat → Nat → Nat
  | 0, R => R
  | n + 1, R => rm D d n (if R.testBit (d + n) then R ^^^ D * 2 ^ n else R)
def pmod (A D d : Nat) : Nat := rm D d (16385 - d) A
attribute [local irreducible] Pm.exps rm pmod

end Go.Proofs.YtoledgpcgjdjjaaGreatDoor
