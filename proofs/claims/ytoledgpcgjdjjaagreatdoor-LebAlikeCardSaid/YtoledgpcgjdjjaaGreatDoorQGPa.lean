import Derived.Test.YtoledgpcgjdjjaaGreatDoorRows
import Derived.Test.YtoledgpcgjdjjaaGreatDoorQLib
import Derived.Test.YtoledgpcgjdjjaaGreatDoorQGGfm
import Derived.WalkKit
import Derived.Lib.Hide
import Derived.WalkSpells
import Derived.WalkLawsBesides
import Derived.BigQuiet
import Derived.BigRegion
import Derived.Deep.QuietTactic
import Derived.Laws.ResultCell
/- Walks over package poly: the coefficients. -/
namespace Go.Proofs.YtoledgpcgjdjjaaGreatDoor
open Go.RowKit Pm

def wordsA (P : Nat) : Array Value := Array.ofFn (n := 257) fun i => .int .u64 ((word P i : Nat) : Int)
theorem wordsA_size (P : Nat) : (wordsA P).size = 257 := by simp [wordsA]
theorem wordsA_get (P i : Nat) (h : i < 257) : (wordsA P)[i]? = some (.int .u64 ((word P i : Nat) : Int)) := by
  simp [wordsA, h]
theorem wordsA_set (P Q i : Nat) (v : Nat) (h : word Q i = v) (ho : ∀ j, j < 257 → j ≠ i → word Q j = word P j) :
    (wordsA P).setIfInBounds i (.int .u64 ((v : Nat) : Int)) = wordsA Q := by
  apply Array.ext
  · simp [wordsA]
  · intro j h1 h2
    have hj : j < 257 := by simpa [wordsA] using h2
    rw [Array.getElem_setIfInBounds (by simpa using h1)]
    by_cases e : i = j
    · subst e; simp [wordsA, h]
    · simp [wordsA, e, ho j hj (fun x => e x.symm)]

theorem wordsA_one (P : Nat) : (wordsA P).all (·.oneCell') = true := by
  rw [Array.all_eq_true_iff_forall_mem]
  intro v hv
  obtain ⟨i, rfl⟩ := Array.mem_ofFn.1 hv
  rfl
theorem wordsA_info (P : Nat) : (Tryz.prog.info? 279).map (·.size) = some (wordsA P).size := by
  rw [wordsA_size]; kernel_rfl
theorem u64_pow (m : Nat) (h : m < 64) : IntKind.u64.wrap (2 ^ m) = ((2 ^ m : Nat) : Int) := by
  have hp : 2 ^ m < 2 ^ 64 := Nat.pow_lt_pow_right (by omega) h
  have e : (2 : Int) ^ m = ((2 ^ m : Nat) : Int) := by rw [Int.natCast_pow]; rfl
  rw [IntKind.wrap_u64, e]
  generalize 2 ^ m = x at hp
  omega
theorem Upd.setRow {R : Nat → Prop} {a w : World} (h : Upd R a w) {g : Nat} (hg : R g ∨ a.heap.size ≤ g) (cs : Array Value) : Upd R a (w.setRow g cs) :=
  ⟨h.os, h.tape, h.output, by simpa using h.size, fun i hi hn => (setRow_other w g i cs (by
    rintro rfl
    rcases hg with hg | hg
    · exact hn hg
    · omega)).trans (h.block i hi hn)⟩
theorem zero_words : Tryz.zeroCells279 = wordsA 0 := by kernel_rfl

def Coef (w : World) (b P : Nat) : Prop := w.heap[b]? = some (.cells (wordsA P) 279 (0, 0))
theorem Coef.cell {w : World} {b P : Nat} (h : Coef w b P) {i : Nat} (hi : i < 257) : w.cell? ⟨b, i, none⟩ = some (.int .u64 ((word P i : Nat) : Int)) := (cell_of h i).trans (wordsA_get P i hi)
theorem Coef.free {w : World} {b P : Nat} (h : Coef w b P) (i : Nat) : w.frozen? ⟨b, i, none⟩ = false := free_of h i
theorem Coef.lt {w : World} {b P : Nat} (h : Coef w b P) : b < w.heap.size := lt_of_block h
theorem Coef.drew {w : World} {b P : Nat} (h : Coef w b P) : Coef w.drew b P := h
theorem Coef.alloc {w : World} {b P : Nat} (h : Coef w b P) (o : Obj) : Coef (w.alloc o) b P := block_alloc h o
theorem Coef.other {w : World} {b P : Nat} (h : Coef w b P) {a : Addr} (ha : ¬ b = a.block) (v : Value) : Coef (w.setCell a v) b P := block_set_other h ha v
theorem Coef.upd {w w' : World} {b P : Nat} (h : Coef w b P) {R : Nat → Prop} (hu : Upd R w w') (hR : ¬ R b) : Coef w' b P := hu.cells h hR
theorem Coef.new (w : World) : Coef (w.alloc (.cells Tryz.zeroCells279 279)) w.heap.size 0 := by
  rw [zero_words]; exact heap_alloc_new w _
theorem Coef.set {w : World} {b P Q i v : Nat} (hc : Coef w b P) (h : word Q i = v) (ho : ∀ j, j < 257 → j ≠ i → word Q j = word P j) : Coef (w.setCell ⟨b, i, none⟩ (.int .u64 ((v : Nat) : Int))) b Q := by
  unfold Coef
  rw [← wordsA_set P Q i v h ho]
  exact block_set hc _

set_option maxRecDepth 20000 in
set_option maxHeartbeats 800000 in
theorem gather_any (a : Option Addr) (len cap B : Nat) (xs : List Int) (w : World) (hr : Ints w B a len xs) (hB : B ≤ w.heap.size) (hm : len ≤ maxLen) :
    Calls Tryz.prog 192 #[.slice a len cap] w fun e w' => e = .returned (.agg (wordsA (gat xs))) ∧ Upd noBlock w w' := by
  have hcap : len ≤ 9223372036854775807 := by unfold maxLen at hm; omega
  have Hlen := Lib.hid hr.1
  have HC := Lib.hid (Coef.new (w.alloc (.cells Tryz.zeroCells279 279)))
  rw [World.size_alloc] at HC
  have HU : Hid (Upd noBlock w ((w.alloc (.cells Tryz.zeroCells279 279)).alloc (.cells Tryz.zeroCells279 279))) := ((Upd.refl noBlock w).alloc _).alloc _
  have HR := Lib.hid (hr.grow HU.out hB)
  have HD := Lib.hid (Coef.new w)
  have HD2 := Lib.hid (HD.out.alloc (.cells Tryz.zeroCells279 279))
  clear hm hr HD
  go_enter Tryz.func192, Tryz.ntmps192
  go_wp2_with fail
  go_loopw [8] (fun i wr => ∃ k : Nat, k ≤ len ∧ i = .int .i64 (k : Int) ∧ Hid (Coef wr (w.heap.size + 1) (gat (xs.take k))) ∧ Hid (Coef wr w.heap.size 0) ∧ Hid (Ints wr B a len xs) ∧ Hid (Upd noBlock w wr)) (fun i _ => len - (intOf i).toNat)
  case atStart => exact ⟨0, Nat.zero_le _, rfl, HC, HD2, HR, HU⟩
  case round =>
    clear HC HR HU HD2
    obtain ⟨k, hk, rfl, HC, HD, HR, HU⟩ := hrel
    by_cases h0 : k < len
    · obtain ⟨g, off, rfl, hgB, hcell⟩ := HR.out.cell (by omega)
      have c1 := hcell k h0
      have hs := gat_take_succ xs k (by have := Hlen.out; omega)
      generalize xs.getD k 0 = z at c1 hs
      have HS := Lib.hid hs
      clear hs hcell
      by_cases h1 : 0 ≤ z
      · obtain ⟨n, rfl⟩ := Int.eq_ofNat_of_zero_le h1
        by_cases h2 : n ≤ 16384
        · have hw := HC.out.cell (i := n / 64) (by omega)
          have hf := HC.out.free (n / 64)
          clear h1
          have hv : bits .xor .u64 ((word (gat (xs.take k)) (n / 64) : Nat) : Int) (IntKind.u64.wrap (2 ^ (n % 64))) = ((word (gat (xs.take (k + 1))) (n / 64) : Nat) : Int) := by
            have h := HS.out
            have e : tog (n : Int) = 2 ^ n := by unfold tog; rw [if_pos (by omega), Int.toNat_natCast]
            have hp : 2 ^ (n % 64) < 2 ^ 64 := Nat.pow_lt_pow_right (by omega) (by omega)
            rw [u64_pow _ (by omega), u64_xor_nat _ _ (word_lt _ _) hp, h, e, word_xor, word_pow, if_pos rfl]
          have HN : Hid (Coef (wr.setCell ⟨w.heap.size + 1, n / 64, none⟩ (.int .u64 ((word (gat (xs.take (k + 1))) (n / 64) : Nat) : Int))) (w.heap.size + 1) (gat (xs.take (k + 1)))) :=
            HC.out.set rfl (fun j _ hne => by
              have h := HS.out
              have e : tog (n : Int) = 2 ^ n := by unfold tog; rw [if_pos (by omega), Int.toNat_natCast]
              rw [h, e, word_xor, word_pow, if_neg hne, Nat.xor_zero])
          have HND : Hid (Coef (wr.setCell ⟨w.heap.size + 1, n / 64, none⟩ (.int .u64 ((word (gat (xs.take (k + 1))) (n / 64) : Nat) : Int))) w.heap.size 0) := HD.out.other (by simp) _
          have HNU : Hid (Upd noBlock w (wr.setCell ⟨w.heap.size + 1, n / 64, none⟩ (.int .u64 ((word (gat (xs.take (k + 1))) (n / 64) : Nat) : Int)))) := HU.out.setCell (.inr (by simp)) _
          have HNR : Hid (Ints (wr.setCell ⟨w.heap.size + 1, n / 64, none⟩ (.int .u64 ((word (gat (xs.take (k + 1))) (n / 64) : Nat) : Int))) B (some ⟨g, off, none⟩) len xs) := HR.out.keep (fun g' _ hg' => Below.heap_setCell _ _ _ _ (by simp; omega))
          go_wp2
          go_region
          go_wp2
          go_roundw
          case rel => exact ⟨k + 1, by omega, by go_num, HN, HND, HNR, HNU.out.drew⟩
          case measure => simp [intOf]; omega
        · have HS2 : Hid (gat (xs.take (k + 1)) = gat (xs.take k)) := by
            have h := HS.out
            have e : tog (n : Int) = 0 := by unfold tog; rw [if_neg (by omega)]
            rw [e, Nat.xor_zero] at h; exact h
          have h3 : (16384 : Int) < (n : Int) := by omega
          clear h2 HS
          go_wp2
          go_roundw
          case rel => exact ⟨k + 1, by omega, by go_num, by rw [HS2.out]; exact HC, HD, HR, HU⟩
          case measure => simp [intOf]; omega
      · have HS2 : Hid (gat (xs.take (k + 1)) = gat (xs.take k)) := by
          have h := HS.out
          have e : tog z = 0 := by unfold tog; rw [if_neg (by omega)]
          rw [e, Nat.xor_zero] at h; exact h
        have h3 : z < 0 := by omega
        clear h1 HS
        go_wp2
        go_roundw
        case rel => exact ⟨k + 1, by omega, by go_num, by rw [HS2.out]; exact HC, HD, HR, HU⟩
        case measure => simp [intOf]; omega
    · obtain rfl : k = len := by omega
      have ht : gat (xs.take k) = gat xs := by rw [List.take_of_length_le (by have := Hlen.out; omega)]
      rw [ht] at HC
      clear ht HR
      go_wp2_with (first
        | (refine wpList_load_row rfl 279 _ rfl (w.heap.size + 1) rfl 279 (wordsA (gat xs)) (0, 0) _ HC.out Tryz.underlying279 rfl (wordsA_info _) ?_)
        | (refine wpList_store_row rfl 279 _ _ rfl w.heap.size (wordsA (gat xs)) rfl rfl 279 (wordsA 0) HD.out (wordsA_info _) (by rw [wordsA_size, wordsA_size]) (wordsA_one _) ?_))
      refine bodyPost_ret (v := .agg (wordsA (gat xs))) (results_cell_row (g := w.heap.size) Tryz.results192 _ _ 279 (wordsA (gat xs)) (0, 0) _ rfl (setRow_heap _ _ _ _ _ _ HD.out) Tryz.underlying279 rfl (wordsA_info _)) rfl ⟨rfl, HU.out.setRow (.inr (Nat.le_refl _)) _⟩
end Go.Proofs.YtoledgpcgjdjjaaGreatDoor

/- Walks over package poly: addShifted, has. -/
namespace Go.Proofs.YtoledgpcgjdjjaaGreatDoor
open Go.RowKit Pm

def mix (P R i : Nat) : Nat := 2 ^ (64 * i) * (P / 2 ^ (64 * i)) + R % 2 ^ (64 * i)
theorem mix_bit (P R i t : Nat) : (mix P R i).testBit t = if t < 64 * i then R.testBit t else P.testBit t := by
  unfold mix
  rw [Nat.testBit_two_pow_mul_add _ (Nat.mod_lt _ (Nat.two_pow_pos _))]
  split
  · rename_i h; rw [Nat.testBit_mod_two_pow]; simp [h]
  · rename_i h; rw [Nat.testBit_div_two_pow]; congr 1; omega
theorem mix_word (P R i j : Nat) : word (mix P R i) j = if j < i then word R j else word P j := by
  apply Nat.eq_of_testBit_eq
  intro t
  rw [word_bit, mix_bit]
  by_cases h : t < 64
  · by_cases hj : j < i
    · rw [if_pos hj, word_bit, if_pos (by omega)]
    · rw [if_neg hj, word_bit, if_neg (by omega)]
  · have f : decide (t < 64) = false := by simp; omega
    rw [f, Bool.false_and]
    by_cases hj : j < i
    · rw [if_pos hj, word_bit, f, Bool.false_and]
    · rw [if_neg hj, word_bit, f, Bool.false_and]

theorem Coef.set2 {w : World} {b P Q i v : Nat} (hc : Coef w b P) (u : Value) (h : word Q i = v) (ho : ∀ j, j < 257 → j ≠ i → word Q j = word P j) : Coef ((w.setCell ⟨b, i, none⟩ u).setCell ⟨b, i, none⟩ (.int .u64 ((v : Nat) : Int))) b Q := by
  unfold Coef
  rw [← wordsA_set P Q i v h ho]
  have := block_set (i := i) (block_set (i := i) hc u) (.int .u64 ((v : Nat) : Int))
  rw [Array.setIfInBounds_setIfInBounds] at this
  exact this
theorem Coef.congr {w : World} {b P Q : Nat} (h : Coef w b P) (e : ∀ i, i < 257 → word P i = word Q i) : Coef w b Q := by
  unfold Coef at h ⊢
  have : wordsA P = wordsA Q := by
    apply Array.ext
    · simp [wordsA]
    · intro i h1 h2
      have hi : i < 257 := by simpa [wordsA] using h2
      simp [wordsA, e i hi]
  rw [← this]; exact h

set_option maxRecDepth 20000 in
set_option maxHeartbeats 1600000 in
theorem add_any (b o P O m : Nat) (w : World) (hb : Coef w b P) (ho : Coef w o O) (hbo : ¬ b = o) (hm : m ≤ 16384) :
    Calls Tryz.prog 194 #[.pointer (some ⟨b, 0, none⟩), .pointer (some ⟨o, 0, none⟩), .int .i64 (m : Int)] w fun e w' =>
      e = .returned (.tuple #[]) ∧ Coef w' b (P ^^^ O * 2 ^ m) ∧ Coef w' o O ∧ Upd (oneBlock b) w w' := by
  obtain ⟨R, HR⟩ : ∃ R, Hid (P ^^^ O * 2 ^ m = R) := ⟨_, rfl⟩
  rw [HR.out]
  obtain ⟨s, Hs⟩ : ∃ s, Hid (s = m / 64) := ⟨_, rfl⟩
  have e1 : (m : Int) / 64 = (s : Int) := by rw [Hs.out]; omega
  have hs : s < 257 := by rw [Hs.out]; omega
  have hw : ∀ j, word R j = word P j ^^^ ((if s ≤ j then word O (j - s) * 2 ^ (m % 64) % 2 ^ 64 else 0) ^^^ (if s < j then word O (j - s - 1) / 2 ^ (64 - m % 64) else 0)) := by
    intro j
    rw [← HR.out, word_xor, word_shift, Hs.out]
  have HW := Lib.hid hw
  have HS : Hid (Coef w b (mix P R s)) := hb.congr fun i _ => by
    rw [mix_word]
    split
    · rename_i h; rw [hw, if_neg (by omega), if_neg (by omega), Nat.xor_zero, Nat.xor_zero]
    · rfl
  have HO := Lib.hid ho
  clear hw hb ho
  go_enter Tryz.func194, Tryz.ntmps194
  go_wp2
  go_loopw [8] (fun i wr => ∃ k : Nat, s ≤ k ∧ k ≤ 257 ∧ i = .int .i64 (k : Int) ∧ Hid (Coef wr b (mix P R k)) ∧ Hid (Coef wr o O) ∧ Hid (Upd (oneBlock b) w wr)) (fun i _ => 257 - (intOf i).toNat)
  case atStart => exact ⟨s, Nat.le_refl _, by omega, rfl, HS, HO, Upd.refl _ _⟩
  case round =>
    clear HS HO
    obtain ⟨k, hsk, hk, rfl, HC, HO, HU⟩ := hrel
    by_cases h0 : k < 257
    · have c1 := HC.out.cell h0
      have f1 := HC.out.free k
      have c2 := HO.out.cell (i := k - s) (by omega)
      have nb : ¬ o = b := fun e => hbo e.symm
      obtain ⟨x, hx⟩ : ∃ x, x = word P k ^^^ word O (k - s) * 2 ^ (m % 64) % 2 ^ 64 := ⟨_, rfl⟩
      have v1 : bits .xor .u64 ((word (mix P R k) k : Nat) : Int) (IntKind.u64.wrap (((word O (k - s) : Nat) : Int) * 2 ^ (m % 64))) = (x : Int) := by
        have e : IntKind.u64.wrap (((word O (k - s) : Nat) : Int) * 2 ^ (m % 64)) = ((word O (k - s) * 2 ^ (m % 64) % 2 ^ 64 : Nat) : Int) := by
          have e2 : ((word O (k - s) : Nat) : Int) * 2 ^ (m % 64) = ((word O (k - s) * 2 ^ (m % 64) : Nat) : Int) := by rw [Int.natCast_mul, Int.natCast_pow]; rfl
          rw [IntKind.wrap_u64, e2]
          generalize word O (k - s) * 2 ^ (m % 64) = z
          omega
        rw [e, u64_xor_nat _ _ (word_lt _ _) (Nat.mod_lt _ (by omega)), mix_word, if_neg (by omega), hx]
      have hxl : x < 2 ^ 64 := by rw [hx]; exact Nat.xor_lt_two_pow (word_lt _ _) (Nat.mod_lt _ (by omega))
      have hstep : ∀ j, j < 257 → j ≠ k → word (mix P R (k + 1)) j = word (mix P R k) j := fun j _ hne => by
        rw [mix_word, mix_word]
        by_cases h : j < k
        · rw [if_pos h, if_pos (by omega)]
        · rw [if_neg h, if_neg (by omega)]
      have HX := Lib.hid hx
      clear hx
      by_cases h1 : s < k
      · have c3 := HO.out.cell (i := k - s - 1) (by omega)
        have v2 : bits .xor .u64 (x : Int) (((word O (k - s - 1) : Nat) : Int) / 2 ^ (64 - m % 64)) = ((word R k : Nat) : Int) := by
          have e2 : ((word O (k - s - 1) : Nat) : Int) / 2 ^ (64 - m % 64) = ((word O (k - s - 1) / 2 ^ (64 - m % 64) : Nat) : Int) := by rw [Int.natCast_ediv, Int.natCast_pow]; rfl
          rw [e2, u64_xor_nat _ _ hxl (Nat.lt_of_le_of_lt (Nat.div_le_self _ _) (word_lt _ _)), HX.out, HW.out k, if_pos (by omega), if_pos h1, Nat.xor_assoc]
        have hR : word (mix P R (k + 1)) k = word R k := by rw [mix_word, if_pos (by omega)]
        have HN : Hid (Coef ((wr.setCell ⟨b, k, none⟩ (.int .u64 (x : Int))).setCell ⟨b, k, none⟩ (.int .u64 ((word R k : Nat) : Int))) b (mix P R (k + 1))) := HC.out.set2 _ hR hstep
        have HNO : Hid (Coef ((wr.setCell ⟨b, k, none⟩ (.int .u64 (x : Int))).setCell ⟨b, k, none⟩ (.int .u64 ((word R k : Nat) : Int))) o O) := (HO.out.other nb _).other nb _
        have HNU : Hid (Upd (oneBlock b) w ((wr.setCell ⟨b, k, none⟩ (.int .u64 (x : Int))).setCell ⟨b, k, none⟩ (.int .u64 ((word R k : Nat) : Int)))) := (HU.out.setCell (p := ⟨b, k, none⟩) (.inl rfl) _).setCell (p := ⟨b, k, none⟩) (.inl rfl) _
        clear hstep hR
        go_wp2
        go_region
        go_wp2
        go_region
        go_wp2
        go_roundw
        case rel => exact ⟨k + 1, by omega, by omega, by go_num, HN, HNO, HNU.out.drew.drew⟩
        case measure => simp [intOf]; omega
      · have hR : word (mix P R (k + 1)) k = x := by
          rw [mix_word, if_pos (by omega), HW.out k, if_pos (by omega), if_neg h1, Nat.xor_zero, HX.out]
        have HN : Hid (Coef (wr.setCell ⟨b, k, none⟩ (.int .u64 (x : Int))) b (mix P R (k + 1))) := HC.out.set hR hstep
        have HNO : Hid (Coef (wr.setCell ⟨b, k, none⟩ (.int .u64 (x : Int))) o O) := HO.out.other nb _
        have HNU : Hid (Upd (oneBlock b) w (wr.setCell ⟨b, k, none⟩ (.int .u64 (x : Int)))) := HU.out.setCell (p := ⟨b, k, none⟩) (.inl rfl) _
        clear hstep hR
        go_wp2
        go_region
        go_wp2
        go_roundw
        case rel => exact ⟨k + 1, by omega, by omega, by go_num, HN, HNO, HNU.out.drew⟩
        case measure => simp [intOf]; omega
    · obtain rfl : k = 257 := by omega
      go_wp2
      go_end0
      exact ⟨rfl, HC.out.congr fun i hi => by rw [mix_word, if_pos hi], HO.out, HU.out⟩
end Go.Proofs.YtoledgpcgjdjjaaGreatDoor
