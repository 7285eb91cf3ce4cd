import Derived.Test.YtnimgkijodfjkaaRows
import Derived.Test.YtnimgkijodfjkaaKLib
import Derived.WalkKit
import Derived.Lib.Hide
import Derived.WalkSpells
import Derived.WalkLawsBesides
import Derived.BigQuiet
import Derived.BigRegion
import Derived.Deep.QuietTactic
import Derived.Laws.ResultCell
/- Polynomials over two numbers in plain numbers: a bit an exponent; lists of exponents; words of 64 bits. No Go in sight. -/
namespace Go.Proofs.Ytnimgkijodfjkaa.Pm
/-- one more than the greatest exponent -/
def top : Nat := 16385
def tog (e : Int) : Nat := if 0 ≤ e ∧ e ≤ 16384 then 2 ^ e.toNat else 0
def gat (l : List Int) : Nat := l.foldl (fun P e => P ^^^ tog e) 0
/-- the exponents, falling -/
def lst : Nat → Nat → List Int
  | 0, _ => []
  | n + 1, P => if P.testBit n then (n : Int) :: lst n P else lst n P
def exps (P : Nat) : List Int := lst top P

theorem tog_lt (e : Int) : tog e < 2 ^ top := by
  unfold tog
  split
  · exact Nat.pow_lt_pow_right (by omega) (by unfold top; omega)
  · exact Nat.two_pow_pos _
theorem fold_lt (l : List Int) (P : Nat) (h : P < 2 ^ top) : l.foldl (fun P e => P ^^^ tog e) P < 2 ^ top := by
  induction l generalizing P with
  | nil => exact h
  | cons e l ih => exact ih _ (Nat.xor_lt_two_pow h (tog_lt e))
theorem gat_lt (l : List Int) : gat l < 2 ^ top := fold_lt l 0 (Nat.two_pow_pos _)
theorem fold_xor (l : List Int) (P Q : Nat) : l.foldl (fun P e => P ^^^ tog e) (P ^^^ Q) = P ^^^ l.foldl (fun P e => P ^^^ tog e) Q := by
  induction l generalizing Q with
  | nil => rfl
  | cons e l ih => simp only [List.foldl_cons]; rw [Nat.xor_assoc, ih]
theorem gat_append (a b : List Int) : gat (a ++ b) = gat a ^^^ gat b := by
  unfold gat
  rw [List.foldl_append]
  have := fold_xor b (a.foldl (fun P e => P ^^^ tog e) 0) 0
  rw [Nat.xor_zero] at this
  exact this
theorem gat_cons (e : Int) (l : List Int) : gat (e :: l) = tog e ^^^ gat l := by
  have := gat_append [e] l
  simpa [gat] using this
theorem gat_take_succ (l : List Int) (k : Nat) (h : k < l.length) : gat (l.take (k + 1)) = gat (l.take k) ^^^ tog (l.getD k 0) := by
  rw [List.take_succ_eq_append_getElem h, gat_append]
  congr 1
  have e : l.getD k 0 = l[k] := by rw [List.getD_eq_getElem?_getD, List.getElem?_eq_getElem h]; rfl
  rw [e]; simp [gat]

theorem lst_congr (n P Q : Nat) (h : ∀ i, i < n → P.testBit i = Q.testBit i) : lst n P = lst n Q := by
  induction n with
  | zero => rfl
  | succ n ih => unfold lst; rw [h n (by omega), ih (fun i hi => h i (by omega))]
theorem lst_mod (n P : Nat) : lst n (P % 2 ^ n) = lst n P := lst_congr n _ _ fun i hi => by rw [Nat.testBit_mod_two_pow]; simp [hi]
theorem lst_up (n m P : Nat) (h : P < 2 ^ n) (hm : n ≤ m) : lst m P = lst n P := by
  induction m with
  | zero => obtain rfl : n = 0 := Nat.le_zero.1 hm
            rfl
  | succ m ih =>
    rcases Nat.lt_or_ge m n with hl | hg
    · obtain rfl : n = m + 1 := by omega
      rfl
    · rw [lst, ih hg]
      have : P.testBit m = false := Nat.testBit_lt_two_pow (Nat.lt_of_lt_of_le h (Nat.pow_le_pow_right (by omega) hg))
      rw [this]; rfl
theorem exps_mod (P k : Nat) (hk : k ≤ top) : exps (P % 2 ^ k) = lst k P := by
  unfold exps
  rw [lst_up k top _ (Nat.mod_lt _ (Nat.two_pow_pos _)) hk, lst_mod]
/-- the greatest exponent first -/
theorem exps_top (P t : Nat) (h1 : 2 ^ t ≤ P) (h2 : P < 2 ^ (t + 1)) (ht : t ≤ 16384) : exps P = (t : Int) :: exps (P ^^^ 2 ^ t) := by
  have hb : P.testBit t = true := by
    rw [Nat.testBit_eq_decide_div_mod_eq]
    have e : P / 2 ^ t = 1 := by
      have l1 : 1 ≤ P / 2 ^ t := (Nat.le_div_iff_mul_le (Nat.two_pow_pos t)).2 (by omega)
      have l2 : P / 2 ^ t < 2 := (Nat.div_lt_iff_lt_mul (Nat.two_pow_pos t)).2 (by rw [Nat.pow_succ] at h2; omega)
      omega
    rw [e]; rfl
  have e : P ^^^ 2 ^ t = P % 2 ^ t := by
    apply Nat.eq_of_testBit_eq
    intro i
    rw [Nat.testBit_xor, Nat.testBit_mod_two_pow, Nat.testBit_two_pow]
    rcases Nat.lt_trichotomy i t with hi | hi | hi
    · have : decide (t = i) = false := by simp; omega
      simp [hi, this]
    · subst hi; simp [hb]
    · have h3 : P.testBit i = false := Nat.testBit_lt_two_pow (Nat.lt_of_lt_of_le h2 (Nat.pow_le_pow_right (by omega) hi))
      have : decide (t = i) = false := by simp; omega
      rw [h3, this]; simp
  rw [e, exps_mod P t (by unfold top; omega)]
  unfold exps
  rw [lst_up (t + 1) top P h2 (by unfold top; omega), lst, if_pos hb]
theorem exps_zero : exps 0 = [] := by
  have := exps_mod 0 0 (Nat.zero_le _)
  simpa [lst] using this
theorem lst_bound (n P : Nat) : ∀ e ∈ lst n P, 0 ≤ e ∧ e < n := by
  induction n with
  | zero => intro e h; cases h
  | succ n ih =>
    intro e h
    unfold lst at h
    split at h
    · rcases List.mem_cons.1 h with rfl | h
      · omega
      · have := ih e h; omega
    · have := ih e h; omega
theorem gat_lst (n P : Nat) (hn : n ≤ top) : gat (lst n P) = P % 2 ^ n := by
  induction n with
  | zero => simp [lst, gat, Nat.mod_one]
  | succ n ih =>
    have key : P % 2 ^ (n + 1) = (if P.testBit n then 2 ^ n else 0) ^^^ P % 2 ^ n := by
      apply Nat.eq_of_testBit_eq
      intro i
      rw [Nat.testBit_xor, Nat.testBit_mod_two_pow, Nat.testBit_mod_two_pow]
      by_cases hp : P.testBit n
      · rw [if_pos hp, Nat.testBit_two_pow]
        rcases Nat.lt_trichotomy i n with hi | hi | hi
        · have : decide (n = i) = false := by simp; omega
          have h2 : decide (i < n + 1) = true := by simp; omega
          simp [hi, this, h2]
        · subst hi; simp [hp]
        · have : decide (n = i) = false := by simp; omega
          have h2 : decide (i < n + 1) = false := by simp; omega
          have h3 : decide (i < n) = false := by simp; omega
          simp [this, h2, h3]
      · rw [if_neg hp, Nat.zero_testBit]
        rcases Nat.lt_trichotomy i n with hi | hi | hi
        · have h2 : decide (i < n + 1) = true := by simp; omega
          simp [hi, h2]
        · subst hi; simp [hp]
        · have h2 : decide (i < n + 1) = false := by simp; omega
          have h3 : decide (i < n) = false := by simp; omega
          simp [h2, h3]
    unfold lst
    rw [key]
    split
    · rw [gat_cons, ih (by omega)]
      have : tog (n : Int) = 2 ^ n := by unfold tog; rw [if_pos (by unfold top at hn; omega)]; simp
      rw [this]
    · rw [ih (by omega), Nat.zero_xor]
theorem gat_exps (P : Nat) (h : P < 2 ^ top) : gat (exps P) = P := by
  unfold exps
  rw [gat_lst _ _ (Nat.le_refl _), Nat.mod_eq_of_lt h]

/-! words of 64 bits -/
def word (P i : Nat) : Nat := P / 2 ^ (64 * i) % 2 ^ 64
theorem word_bit (P i j : Nat) : (word P i).testBit j = (decide (j < 64) && P.testBit (64 * i + j)) := by
  unfold word
  rw [Nat.testBit_mod_two_pow, Nat.testBit_div_two_pow, Nat.add_comm]
theorem word_lt (P i : Nat) : word P i < 2 ^ 64 := Nat.mod_lt _ (Nat.two_pow_pos _)
theorem word_zero (i : Nat) : word 0 i = 0 := by simp [word]
theorem word_xor (P Q i : Nat) : word (P ^^^ Q) i = word P i ^^^ word Q i := by
  apply Nat.eq_of_testBit_eq
  intro j
  rw [Nat.testBit_xor, word_bit, word_bit, word_bit, Nat.testBit_xor]
  cases decide (j < 64) <;> simp
/-- a bit as words -/
theorem word_pow (e i : Nat) : word (2 ^ e) i = if i = e / 64 then 2 ^ (e % 64) else 0 := by
  apply Nat.eq_of_testBit_eq
  intro j
  rw [word_bit, Nat.testBit_two_pow]
  by_cases h : i = e / 64
  · rw [if_pos h, Nat.testBit_two_pow]
    by_cases hj : e % 64 = j
    · have : e = 64 * i + j := by omega
      have h2 : j < 64 := by omega
      simp [this, h2]
    · have h2 : ¬ e = 64 * i + j := by omega
      simp [hj, h2]
  · rw [if_neg h, Nat.zero_testBit]
    by_cases hj : j < 64
    · have h2 : ¬ e = 64 * i + j := by omega
      simp [h2]
    · simp [hj]
/-- a shift as words -/
theorem word_shift (O n i : Nat) : word (O * 2 ^ n) i =
    (if n / 64 ≤ i then word O (i - n / 64) * 2 ^ (n % 64) % 2 ^ 64 else 0) ^^^ (if n / 64 < i then word O (i - n / 64 - 1) / 2 ^ (64 - n % 64) else 0) := by
  apply Nat.eq_of_testBit_eq
  intro j
  rw [word_bit, Nat.testBit_xor, Nat.testBit_mul_two_pow]
  by_cases hj : j < 64
  · by_cases h1 : n / 64 ≤ i
    · rw [if_pos h1, Nat.testBit_mod_two_pow, Nat.testBit_mul_two_pow, word_bit]
      by_cases h2 : n / 64 < i
      · rw [if_pos h2, Nat.testBit_div_two_pow, word_bit]
        by_cases h3 : n % 64 ≤ j
        · have e1 : 64 * i + j - n = 64 * (i - n / 64) + (j - n % 64) := by omega
          have e2 : n ≤ 64 * i + j := by omega
          have e3 : j - n % 64 < 64 := by omega
          have e4 : ¬ (j + (64 - n % 64) < 64) := by omega
          simp [hj, h3, e1, e2, e3, e4]
        · have e1 : 64 * i + j - n = 64 * (i - n / 64 - 1) + (j + (64 - n % 64)) := by omega
          have e2 : n ≤ 64 * i + j := by omega
          have e4 : (j + (64 - n % 64) < 64) := by omega
          simp [hj, h3, e1, e2, e4]
      · rw [if_neg h2, Nat.zero_testBit]
        have e0 : i = n / 64 := by omega
        by_cases h3 : n % 64 ≤ j
        · have e1 : 64 * i + j - n = 64 * (i - n / 64) + (j - n % 64) := by omega
          have e2 : n ≤ 64 * i + j := by omega
          have e3 : j - n % 64 < 64 := by omega
          simp [hj, h3, e1, e2, e3]
        · have e2 : ¬ n ≤ 64 * i + j := by omega
          simp [h3, e2]
    · have e2 : ¬ n ≤ 64 * i + j := by omega
      have h2 : ¬ n / 64 < i := by omega
      rw [if_neg h1, if_neg h2]
      simp [e2]
  · have f1 : decide (j < 64) = false := by simp; omega
    rw [f1, Bool.false_and]
    have g1 : (if n / 64 ≤ i then word O (i - n / 64) * 2 ^ (n % 64) % 2 ^ 64 else 0).testBit j = false := by
      split
      · rw [Nat.testBit_mod_two_pow]; simp [hj]
      · simp
    have g2 : (if n / 64 < i then word O (i - n / 64 - 1) / 2 ^ (64 - n % 64) else 0).testBit j = false := by
      split
      · rw [Nat.testBit_div_two_pow, word_bit]; have : ¬ (j + (64 - n % 64) < 64) := by omega
        simp [this]
      · simp
    rw [g1, g2]; rfl
end Go.Proofs.Ytnimgkijodfjkaa.Pm

/- Walks over package poly: the coefficients. -/
namespace Go.Proofs.Ytnimgkijodfjkaa
open Go.RowKit Pm

/-- the words of P, as values -/
def wordsA (P : Nat) : Array Value := Array.ofFn (n := 257) fun i => .int .u64 ((word P i : Nat) : Int)
theorem wordsA_size (P : Nat) : (wordsA P).size = 257 := by simp [wordsA]
theorem wordsA_get (P i : Nat) (h : i < 257) : (wordsA P)[i]? = some (.int .u64 ((word P i : Nat) : Int)) := by
  simp [wordsA, h]
/-- one word turned -/
theorem wordsA_set (P Q i : Nat) (v : Nat) (h : word Q i = v) (ho : ∀ j, j < 257 → j ≠ i → word Q j = word P j) :
    (wordsA P).setIfInBounds i (.int .u64 ((v : Nat) : Int)) = wordsA Q := by
  apply Array.ext
  · simp [wordsA]
  · intro j h1 h2
    have hj : j < 257 := by simpa [wordsA] using h2
    rw [Array.getElem_setIfInBounds (by simpa using h1)]
    by_cases e : i = j
    · subst e; simp [wordsA, h]
    · simp [wordsA, e, ho j hj (fun x => e x.symm)]

theorem wordsA_one (P : Nat) : (wordsA P).all (·.oneCell') = true := by
  rw [Array.all_eq_true_iff_forall_mem]
  intro v hv
  obtain ⟨i, rfl⟩ := Array.mem_ofFn.1 hv
  rfl
theorem wordsA_info (P : Nat) : (Try.prog.info? 151).map (·.size) = some (wordsA P).size := by
  rw [wordsA_size]; kernel_rfl
theorem u64_pow (m : Nat) (h : m < 64) : IntKind.u64.wrap (2 ^ m) = ((2 ^ m : Nat) : Int) := by
  have hp : 2 ^ m < 2 ^ 64 := Nat.pow_lt_pow_right (by omega) h
  have e : (2 : Int) ^ m = ((2 ^ m : Nat) : Int) := by rw [Int.natCast_pow]; rfl
  rw [IntKind.wrap_u64, e]
  generalize 2 ^ m = x at hp
  omega
theorem Upd.setRow {R : Nat → Prop} {a w : World} (h : Upd R a w) {g : Nat} (hg : R g ∨ a.heap.size ≤ g) (cs : Array Value) : Upd R a (w.setRow g cs) :=
  ⟨h.os, h.tape, h.output, by simpa using h.size, fun i hi hn => (setRow_other w g i cs (by
    rintro rfl
    rcases hg with hg | hg
    · exact hn hg
    · omega)).trans (h.block i hi hn)⟩
theorem zero_words : Try.zeroCells151 = wordsA 0 := by kernel_rfl

/-- block b holds the words of P -/
def Coef (w : World) (b P : Nat) : Prop := w.heap[b]? = some (.cells (wordsA P) 151 (0, 0))
theorem Coef.cell {w : World} {b P : Nat} (h : Coef w b P) {i : Nat} (hi : i < 257) : w.cell? ⟨b, i, none⟩ = some (.int .u64 ((word P i : Nat) : Int)) := (cell_of h i).trans (wordsA_get P i hi)
theorem Coef.free {w : World} {b P : Nat} (h : Coef w b P) (i : Nat) : w.frozen? ⟨b, i, none⟩ = false := free_of h i
theorem Coef.lt {w : World} {b P : Nat} (h : Coef w b P) : b < w.heap.size := lt_of_block h
theorem Coef.drew {w : World} {b P : Nat} (h : Coef w b P) : Coef w.drew b P := h
theorem Coef.alloc {w : World} {b P : Nat} (h : Coef w b P) (o : Obj) : Coef (w.alloc o) b P := block_alloc h o
theorem Coef.other {w : World} {b P : Nat} (h : Coef w b P) {a : Addr} (ha : ¬ b = a.block) (v : Value) : Coef (w.setCell a v) b P := block_set_other h ha v
theorem Coef.upd {w w' : World} {b P : Nat} (h : Coef w b P) {R : Nat → Prop} (hu : Upd R w w') (hR : ¬ R b) : Coef w' b P := hu.cells h hR
theorem Coef.new (w : World) : Coef (w.alloc (.cells Try.zeroCells151 151)) w.heap.size 0 := by
  rw [zero_words]; exact heap_alloc_new w _
theorem Coef.set {w : World} {b P Q i v : Nat} (hc : Coef w b P) (h : word Q i = v) (ho : ∀ j, j < 257 → j ≠ i → word Q j = word P j) : Coef (w.setCell ⟨b, i, none⟩ (.int .u64 ((v : Nat) : Int))) b Q := by
  unfold Coef
  rw [← wordsA_set P Q i v h ho]
  exact block_set hc _

set_option maxRecDepth 20000 in
set_option maxHeartbeats 800000 in
theorem gather_any (a : Option Addr) (len cap B : Nat) (xs : List Int) (w : World) (hr : Ints w B a len xs) (hB : B ≤ w.heap.size) (hm : len ≤ maxLen) :
    Calls Try.prog 74 #[.slice a len cap] w fun e w' => e = .returned (.agg (wordsA (gat xs))) ∧ Upd noBlock w w' := by
  have hcap : len ≤ 9223372036854775807 := by unfold maxLen at hm; omega
  have Hlen := Lib.hid hr.1
  have HC := Lib.hid (Coef.new (w.alloc (.cells Try.zeroCells151 151)))
  rw [World.size_alloc] at HC
  have HU : Hid (Upd noBlock w ((w.alloc (.cells Try.zeroCells151 151)).alloc (.cells Try.zeroCells151 151))) := ((Upd.refl noBlock w).alloc _).alloc _
  have HR := Lib.hid (hr.grow HU.out hB)
  have HD := Lib.hid (Coef.new w)
  have HD2 := Lib.hid (HD.out.alloc (.cells Try.zeroCells151 151))
  clear hm hr HD
  go_enter Try.func74, Try.ntmps74
  go_wp2_with fail
  go_loopw [8] (fun i wr => ∃ k : Nat, k ≤ len ∧ i = .int .i64 (k : Int) ∧ Hid (Coef wr (w.heap.size + 1) (gat (xs.take k))) ∧ Hid (Coef wr w.heap.size 0) ∧ Hid (Ints wr B a len xs) ∧ Hid (Upd noBlock w wr)) (fun i _ => len - (intOf i).toNat)
  case atStart => exact ⟨0, Nat.zero_le _, rfl, HC, HD2, HR, HU⟩
  case round =>
    clear HC HR HU HD2
    obtain ⟨k, hk, rfl, HC, HD, HR, HU⟩ := hrel
    by_cases h0 : k < len
    · obtain ⟨g, off, rfl, hgB, hcell⟩ := HR.out.cell (by omega)
      have c1 := hcell k h0
      have hs := gat_take_succ xs k (by have := Hlen.out; omega)
      generalize xs.getD k 0 = z at c1 hs
      have HS := Lib.hid hs
      clear hs hcell
      by_cases h1 : 0 ≤ z
      · obtain ⟨n, rfl⟩ := Int.eq_ofNat_of_zero_le h1
        by_cases h2 : n ≤ 16384
        · have hw := HC.out.cell (i := n / 64) (by omega)
          have hf := HC.out.free (n / 64)
          clear h1
          have hv : bits .xor .u64 ((word (gat (xs.take k)) (n / 64) : Nat) : Int) (IntKind.u64.wrap (2 ^ (n % 64))) = ((word (gat (xs.take (k + 1))) (n / 64) : Nat) : Int) := by
            have h := HS.out
            have e : tog (n : Int) = 2 ^ n := by unfold tog; rw [if_pos (by omega), Int.toNat_natCast]
            have hp : 2 ^ (n % 64) < 2 ^ 64 := Nat.pow_lt_pow_right (by omega) (by omega)
            rw [u64_pow _ (by omega), u64_xor_nat _ _ (word_lt _ _) hp, h, e, word_xor, word_pow, if_pos rfl]
          have HN : Hid (Coef (wr.setCell ⟨w.heap.size + 1, n / 64, none⟩ (.int .u64 ((word (gat (xs.take (k + 1))) (n / 64) : Nat) : Int))) (w.heap.size + 1) (gat (xs.take (k + 1)))) :=
            HC.out.set rfl (fun j _ hne => by
              have h := HS.out
              have e : tog (n : Int) = 2 ^ n := by unfold tog; rw [if_pos (by omega), Int.toNat_natCast]
              rw [h, e, word_xor, word_pow, if_neg hne, Nat.xor_zero])
          have HND : Hid (Coef (wr.setCell ⟨w.heap.size + 1, n / 64, none⟩ (.int .u64 ((word (gat (xs.take (k + 1))) (n / 64) : Nat) : Int))) w.heap.size 0) := HD.out.other (by simp) _
          have HNU : Hid (Upd noBlock w (wr.setCell ⟨w.heap.size + 1, n / 64, none⟩ (.int .u64 ((word (gat (xs.take (k + 1))) (n / 64) : Nat) : Int)))) := HU.out.setCell (.inr (by simp)) _
          have HNR : Hid (Ints (wr.setCell ⟨w.heap.size + 1, n / 64, none⟩ (.int .u64 ((word (gat (xs.take (k + 1))) (n / 64) : Nat) : Int))) B (some ⟨g, off, none⟩) len xs) := HR.out.keep (fun g' _ hg' => Below.heap_setCell _ _ _ _ (by simp; omega))
          go_wp2
          go_region
          go_wp2
          go_roundw
          case rel => exact ⟨k + 1, by omega, by go_num, HN, HND, HNR, HNU.out.drew⟩
          case measure => simp [intOf]; omega
        · have HS2 : Hid (gat (xs.take (k + 1)) = gat (xs.take k)) := by
            have h := HS.out
            have e : tog (n : Int) = 0 := by unfold tog; rw [if_neg (by omega)]
            rw [e, Nat.xor_zero] at h; exact h
          have h3 : (16384 : Int) < (n : Int) := by omega
          clear h2 HS
          go_wp2
          go_roundw
          case rel => exact ⟨k + 1, by omega, by go_num, by rw [HS2.out]; exact HC, HD, HR, HU⟩
          case measure => simp [intOf]; omega
      · have HS2 : Hid (gat (xs.take (k + 1)) = gat (xs.take k)) := by
          have h := HS.out
          have e : tog z = 0 := by unfold tog; rw [if_neg (by omega)]
          rw [e, Nat.xor_zero] at h; exact h
        have h3 : z < 0 := by omega
        clear h1 HS
        go_wp2
        go_roundw
        case rel => exact ⟨k + 1, by omega, by go_num, by rw [HS2.out]; exact HC, HD, HR, HU⟩
        case measure => simp [intOf]; omega
    · obtain rfl : k = len := by omega
      have ht : gat (xs.take k) = gat xs := by rw [List.take_of_length_le (by have := Hlen.out; omega)]
      rw [ht] at HC
      clear ht HR
      go_wp2_with (first
        | (refine wpList_load_row rfl 151 _ rfl (w.heap.size + 1) rfl 151 (wordsA (gat xs)) (0, 0) _ HC.out Try.underlying151 rfl (wordsA_info _) ?_)
        | (refine wpList_store_row rfl 151 _ _ rfl w.heap.size (wordsA (gat xs)) rfl rfl 151 (wordsA 0) HD.out (wordsA_info _) (by rw [wordsA_size, wordsA_size]) (wordsA_one _) ?_))
      refine bodyPost_ret (v := .agg (wordsA (gat xs))) (results_cell_row (g := w.heap.size) Try.results74 _ _ 151 (wordsA (gat xs)) (0, 0) _ rfl (setRow_heap _ _ _ _ _ _ HD.out) Try.underlying151 rfl (wordsA_info _)) rfl ⟨rfl, HU.out.setRow (.inr (Nat.le_refl _)) _⟩
end Go.Proofs.Ytnimgkijodfjkaa
