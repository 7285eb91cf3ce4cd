/- The law's flipped: a word with some of its bits turned. -/
import Derived.Test.YtjfbbnmonfankaaKNN
namespace Go.Proofs.Ytjfbbnmonfankaa
open F
open Go.RowKit Pm
set_option linter.unusedVariables false

/-- a row of bools of the call's own -/
def BoolRow (w : World) (g n : Nat) (f : Nat → Bool) : Prop :=
  ∃ cur : Array Value, w.heap[g]? = some (.cells cur 4 (0, 0)) ∧ cur.size = n ∧ ∀ j, j < n → cur[j]? = some (.bool (f j))
theorem BoolRow.cell {w : World} {g n : Nat} {f : Nat → Bool} (h : BoolRow w g n f) (j : Nat) (hj : j < n) : w.cell? ⟨g, j, none⟩ = some (.bool (f j)) := by
  obtain ⟨cur, hg, _, hc⟩ := h
  rw [cell_of hg]; exact hc j hj
theorem BoolRow.free {w : World} {g n : Nat} {f : Nat → Bool} (h : BoolRow w g n f) (j : Nat) : w.frozen? ⟨g, j, none⟩ = false := by
  obtain ⟨cur, hg, _, _⟩ := h
  exact free_of hg j
theorem BoolRow.grow {w w' : World} {g n : Nat} {f : Nat → Bool} (h : BoolRow w g n f) (hu : Upd noBlock w w') : BoolRow w' g n f := by
  obtain ⟨cur, hg, r⟩ := h
  exact ⟨cur, (hu.block g (lt_of_block hg) (fun h => h)).trans hg, r⟩
theorem BoolRow.other {w : World} {g n g' i : Nat} {v : Value} {f : Nat → Bool} (h : BoolRow w g n f) (hne : ¬ g = g') : BoolRow (w.setCell ⟨g', i, none⟩ v) g n f := by
  obtain ⟨cur, hg, r⟩ := h
  exact ⟨cur, block_set_other hg hne v, r⟩
theorem BoolRow.set {w : World} {g n : Nat} {f : Nat → Bool} (h : BoolRow w g n f) (i : Nat) (b : Bool) : BoolRow (w.setCell ⟨g, i, none⟩ (.bool b)) g n (fun j => if j = i then b else f j) := by
  obtain ⟨cur, hg, hs, hc⟩ := h
  refine ⟨_, block_set hg _, by rw [Array.size_setIfInBounds]; exact hs, fun j hj => ?_⟩
  rw [Array.getElem?_setIfInBounds]
  by_cases e1 : j = i
  · subst e1
    rw [if_pos rfl, if_pos (by omega)]
    simp only [if_true]
  · rw [if_neg (Ne.symm e1)]
    simp only [if_neg e1]
    exact hc j hj
theorem BoolRow.congr {w : World} {g n : Nat} {f f' : Nat → Bool} (h : BoolRow w g n f) (hf : ∀ j, j < n → f j = f' j) : BoolRow w g n f' := by
  obtain ⟨cur, hg, hs, hc⟩ := h
  exact ⟨cur, hg, hs, fun j hj => by rw [← hf j hj]; exact hc j hj⟩
theorem ByteRow.other {w : World} {g n g' i : Nat} {e : TypeId} {v : Value} {f : Nat → Nat} (h : ByteRow w g n e f) (hne : ¬ g = g') : ByteRow (w.setCell ⟨g', i, none⟩ v) g n e f := by
  obtain ⟨cur, z, hg, r⟩ := h
  exact ⟨cur, z, block_set_other hg hne v, r⟩
theorem boolInfo : (Try.prog.info? 4).map (fun i => (i.zero, i.size, i.bytes)) = some (some (.bool false), 1, 1) := by kernel_rfl
theorem bool_make (m : Nat) (hm : m ≤ 5000) : ∀ w : World, (Instr.makeSlice 73 (.int .i64 (m : Int)) (.int .i64 (m : Int))).run Try.prog w = .ok (.slice (some ⟨w.heap.size, 0, none⟩) m m) (w.alloc (.cells (madeCells #[.bool false] m) 4)) :=
  run_make_row' (P := Try.prog) 73 4 (.bool false) 1 Try.underlying73 boolInfo rfl .i64 .i64 m (by omega) (by omega)
theorem bool_made (w : World) (m : Nat) : BoolRow (w.alloc (.cells (madeCells #[.bool false] m) 4)) w.heap.size m (fun _ => false) := by
  obtain ⟨c, h1, h2, h3⟩ := World.rowIs_made w (.bool false) m 4
  exact ⟨c, h1, h2, fun j hj => h3 j hj⟩
theorem flip_take (W : List UInt8) (q k : Nat) (hq : q < 8 * k) (hk : k ≤ W.length) : (flipB W q).take k = flipB (W.take k) q := by
  unfold flipB
  rw [List.take_set, List.getD_eq_getElem?_getD, List.getD_eq_getElem?_getD, List.getElem?_take, if_pos (by omega)]
theorem flip_drop_lt (W : List UInt8) (q k : Nat) (hq : q < 8 * k) : (flipB W q).drop k = W.drop k := by
  unfold flipB
  rw [List.drop_set, if_pos (by omega)]
theorem flip_take_ge (W : List UInt8) (q k : Nat) (hq : 8 * k ≤ q) : (flipB W q).take k = W.take k := by
  unfold flipB
  rw [List.take_set, List.set_eq_of_length_le (by rw [List.length_take]; omega)]
theorem flip_drop (W : List UInt8) (q k : Nat) (hq : 8 * k ≤ q) : (flipB W q).drop k = flipB (W.drop k) (q - 8 * k) := by
  unfold flipB
  have e1 : (q - 8 * k) / 8 = q / 8 - k := by omega
  have e2 : (q - 8 * k) % 8 = q % 8 := by omega
  rw [List.drop_set, if_neg (by omega), e1, e2, List.getD_eq_getElem?_getD, List.getD_eq_getElem?_getD, List.getElem?_drop, show k + (q / 8 - k) = q / 8 by omega]
/-- the facts of the state -/
structure QsOk (N most : Nat) (qs : List Nat) : Prop where
  nd : qs.Nodup
  lt : ∀ q ∈ qs, q < N
  le : qs.length ≤ most
theorem QsOk.snoc {N most : Nat} {qs : List Nat} (h : QsOk N most qs) {q : Nat} (hq : q < N) (hn : q ∉ qs) (hl : qs.length < most) : QsOk N most (qs ++ [q]) where
  nd := List.nodup_append.2 ⟨h.nd, by simp, fun a ha b hb e => by
    have : b = q := by simpa using hb
    subst this; subst e; exact hn ha⟩
  lt := fun x hx => by
    rcases List.mem_append.1 hx with hx | hx
    · exact h.lt x hx
    · have : x = q := by simpa using hx
      omega
  le := by rw [List.length_append]; simp; omega
theorem mem_snoc_eq (qs : List Nat) (q j : Nat) : decide (j ∈ qs ++ [q]) = if j = q then true else decide (j ∈ qs) := by
  by_cases e : j = q
  · rw [if_pos e, decide_eq_true (by rw [e]; simp)]
  · rw [if_neg e]; exact decide_eq_decide.2 (by simp [e])
/-- what flipped answers -/
def FlipA (t k : Nat) (W : List UInt8) (w : World) (e : Ending) (w' : World) : Prop :=
  ∃ qs, QsOk (8 * k + 13 * t) (t + 2) qs ∧ e = .returned (.tuple #[.string ⟨((flips W qs).take k).toArray⟩, .string ⟨((flips W qs).drop k).toArray⟩, .int .i64 (qs.length : Int)]) ∧ Upd noBlock w w'
set_option maxRecDepth 100000 in
set_option maxHeartbeats 6400000 in
theorem flipped_any (t k : Nat) (data par : ByteArray) (a : Option Addr) (n c : Nat) (xs : List Int) (w : World) (h1 : 1 ≤ t) (h2 : t ≤ 8) (h3 : 1 ≤ k) (h4 : k ≤ 256) (hd : data.size = k) (hp : par.size = (13 * t + 7) / 8) (hx : Ints w w.heap.size a n xs) (hnb : n ≤ 17592186044160) :
    Calls Try.prog 15 #[.int .i64 (t : Int), .string data, .string par, .slice a n c] w (FlipA t k (data.data.toList ++ par.data.toList) w) := by
  have HD := Lib.hid (fun W => refDegree_any t W h1 h2)
  obtain ⟨m, hm⟩ : ∃ m, (13 * t + 7) / 8 = m := ⟨_, rfl⟩
  obtain ⟨d, hdd⟩ : ∃ d, 13 * t = d := ⟨_, rfl⟩
  obtain ⟨N, hN⟩ : ∃ N, 8 * k + d = N := ⟨_, rfl⟩
  obtain ⟨W, hW⟩ : ∃ W, data.data.toList ++ par.data.toList = W := ⟨_, rfl⟩
  have HFA : Hid (∀ qs e w', QsOk N (t + 2) qs → e = .returned (.tuple #[.string ⟨((flips W qs).take k).toArray⟩, .string ⟨((flips W qs).drop k).toArray⟩, .int .i64 (qs.length : Int)]) → Upd noBlock w w' → FlipA t k W w e w') := fun qs e w' ha hb hc => ⟨qs, by rw [hdd, hN]; exact ha, hb, hc⟩
  have hWl : W.length = k + m := by rw [← hW, List.length_append, ← hm, ← hp, ← hd]; rfl
  have hWt : W.take k = data.data.toList := by
    rw [← hW, ← hd]; exact List.take_left' rfl
  have hWd : W.drop k = par.data.toList := by
    rw [← hW, ← hd]; exact List.drop_left' rfl
  rw [hdd] at HD hm
  rw [hW]
  rw [hdd, hm] at hp
  have hd104 : d ≤ 104 := by omega
  have hm13 : m ≤ 13 := by omega
  have hN1 : 1 ≤ N := by omega
  have hN2 : N ≤ 2152 := by omega
  have HNK : Hid (8 * k + d = N ∧ N ≤ 8 * (k + m)) := by show _ ∧ _; omega
  have hmk := bool_make N (by omega)
  have hkd : (data.size : Int) = (k : Int) := by omega
  have e8 : 8 * (k : Int) + (d : Int) = (N : Int) := by omega
  obtain ⟨CW1, CC1, hconv1, hcu1, hcb1⟩ := conv_row (P := Try.prog) 9 43 5 Try.underlying9 Try.underlying43 Try.underlying5 data (by rw [hd]; unfold maxLen; omega)
  obtain ⟨CW2, CC2, hconv2, hcu2, hcb2⟩ := conv_row (P := Try.prog) 9 43 5 Try.underlying9 Try.underlying43 Try.underlying5 par (by rw [hp]; unfold maxLen; omega)
  rw [hd] at hconv1 hcb1
  rw [hp] at hconv2 hcb2
  rw [← hWt] at hcb1
  rw [← hWd] at hcb2
  have HX := Lib.hid hx
  have HWL := Lib.hid hWl
  have hdz : data.size ≤ 9223372036854775807 := by omega
  clear hWt hWd hW hWl hx hd hp hm hN hdd
  go_enter Try.func15, Try.ntmps15
  go_upto_region 5 with (go_at_call 12; (with_reducible refine (HD.out _).mono ?_); rintro e w1 ⟨rfl, hu1⟩; have U1 := Lib.hid hu1; clear hu1)
  obtain ⟨gt, hgt⟩ : ∃ gt, gt = w1.heap.size := ⟨_, rfl⟩
  obtain ⟨wt, hwt⟩ : ∃ wt, wt = w1.alloc (.cells (madeCells #[.bool false] N) 4) := ⟨_, rfl⟩
  have T0 : BoolRow wt gt N (fun _ => false) := by rw [hwt, hgt]; exact bool_made w1 N
  have hgt2 : gt < wt.heap.size := by rw [hwt, hgt, World.size_alloc]; omega
  have Ut : Upd noBlock w wt := by rw [hwt]; exact U1.out.alloc _
  have Hg1 : w.heap.size ≤ gt := by rw [hgt]; exact U1.out.size
  have hz1 : wt.heap.size = w1.heap.size + 1 := by rw [hwt, World.size_alloc]
  rw [← hwt, ← hgt]
  rw [← hgt] at hz1
  try rw [← hz1]
  clear hwt hgt
  obtain ⟨wu, hwu⟩ : ∃ wu, wu = CW1 wt := ⟨_, rfl⟩
  have B1 := hcb1.out wt
  have Ub := hcu1.out wt
  rw [← hwu] at B1 Ub
  rw [← hwu]
  obtain ⟨gb, hgb⟩ : ∃ gb, gb = wt.heap.size := ⟨_, rfl⟩
  obtain ⟨c1, hc1⟩ : ∃ c1, c1 = CC1 wt := ⟨_, rfl⟩
  rw [← hgb, ← hc1] at B1
  rw [← hgb, ← hc1]
  obtain ⟨wv, hwv⟩ : ∃ wv, wv = CW2 wu := ⟨_, rfl⟩
  have B2 := hcb2.out wu
  have Uc := hcu2.out wu
  rw [← hwv] at B2 Uc
  rw [← hwv]
  obtain ⟨gp, hgp⟩ : ∃ gp, gp = wu.heap.size := ⟨_, rfl⟩
  obtain ⟨c2, hc2⟩ : ∃ c2, c2 = CC2 wu := ⟨_, rfl⟩
  rw [← hgp, ← hc2] at B2
  rw [← hgp, ← hc2]
  have hkc1 : k ≤ c1 := bs_cap B1
  have hkc2 : m ≤ c2 := bs_cap B2
  have hlt1 : (W.take k).length = k := by rw [List.length_take, HWL.out]; omega
  have hlt2 : (W.drop k).length = m := by rw [List.length_drop, HWL.out]; omega
  have R1 := (bs_row B1).grow Uc
  have R2 := bs_row B2
  rw [hlt1] at R1
  rw [hlt2] at R2
  have hgbu : gb < wu.heap.size := by
    obtain ⟨cur, z, hg, _⟩ := bs_row B1
    exact lt_of_block hg
  have HNE : Hid (¬ gt = gb ∧ ¬ gt = gp ∧ ¬ gb = gp ∧ ¬ gb = gt ∧ ¬ gp = gt ∧ ¬ gp = gb) := by show _ ∧ _ ∧ _ ∧ _ ∧ _ ∧ _; omega
  have HGS : Hid (w.heap.size ≤ gt ∧ w.heap.size ≤ gb ∧ w.heap.size ≤ gp) := by
    have h9 := Ut.size
    have h8 := Ub.size
    show _ ∧ _ ∧ _; omega
  have T1 := Lib.hid ((T0.grow Ub).grow Uc)
  have HR1 := Lib.hid R1
  have HR2 := Lib.hid R2
  have UV := Lib.hid ((Ut.trans Ub).trans Uc)
  clear hwu hgb hc1 hwv hgp hc2 B1 B2 Ub Uc Ut T0 R1 R2 hgt2 Hg1 hz1 hgbu hlt1 hlt2 hconv1 hconv2 hcu1 hcu2 hcb1 hcb2 hmk
  go_wp2_with fail
  go_loopw [13, 16] (fun s13 s16 wr => ∃ (i : Nat) (qs : List Nat), i ≤ n ∧ s16 = .int .i64 (i : Int) ∧ s13 = .int .i64 (qs.length : Int) ∧ Hid (QsOk N (t + 2) qs) ∧ Hid (BoolRow wr gt N (fun j => decide (j ∈ qs))) ∧ Hid (ByteRow wr gb k 5 (fun j => (((flips W qs).take k).getD j 0).toNat)) ∧ Hid (ByteRow wr gp m 5 (fun j => (((flips W qs).drop k).getD j 0).toNat)) ∧ Hid (Upd noBlock w wr)) (fun _ s16 _ => n - (intOf s16).toNat)
  case atStart => exact ⟨0, [], Nat.zero_le _, rfl, rfl, ⟨List.nodup_nil, (fun q h => by cases h), Nat.zero_le _⟩, T1.out.congr (fun j _ => by simp), HR1, HR2, UV⟩
  case round =>
    clear T1 HR1 HR2 UV
    obtain ⟨i, qs, hi, rfl, rfl, HQ, HT, HB, HP, HU⟩ := hrel
    by_cases h0 : i < n
    · obtain ⟨g, off, rfl, hg, hc⟩ := (HX.out.grow HU.out (Nat.le_refl _)).cell (by omega)
      have cx := hc i h0
      generalize xs.getD i 0 = v at *
      have b1 := Int.tmod_lt_of_pos v (show (0 : Int) < (N : Int) by omega)
      have b2 := Int.lt_tmod_of_pos v (show (0 : Int) < (N : Int) by omega)
      obtain ⟨x, hxv⟩ : ∃ x, v.tmod (N : Int) = x := ⟨_, rfl⟩
      rw [hxv] at b1 b2
      obtain ⟨q, hq⟩ : ∃ q : Nat, (if x < 0 then x + (N : Int) else x) = (q : Int) := by
        by_cases hx0 : x < 0
        · rw [if_pos hx0]; exact ⟨(x + (N : Int)).toNat, by omega⟩
        · rw [if_neg hx0]; exact ⟨x.toNat, by omega⟩
      have hqN : q < N := by
        by_cases hx0 : x < 0
        · rw [if_pos hx0] at hq; omega
        · rw [if_neg hx0] at hq; omega
      have HQV := Lib.hid hq
      clear hc hq
      go_upto_if 44 with fail
      clear hxv
      go_cut [17] from 31 to 92 (fun s17 wx => s17 = .int .i64 (q : Int) ∧ wr = wx)
      case first =>
        by_cases hx0 : x < 0
        · have hq := HQV.out
          rw [if_pos hx0] at hq
          go_wp2_with fail
          go_meet
          exact ⟨rfl, rfl⟩
        · have hq := HQV.out
          rw [if_neg hx0] at hq
          have HQ2 := Lib.hid hq
          clear hq
          go_wp2_with fail
          go_meet
          exact ⟨by rw [HQ2.out], rfl⟩
      case rest =>
        obtain ⟨rfl, rfl⟩ := hcut
        clear HQV b1 b2 cx
        have ct := HT.out.cell q hqN
        have ft := HT.out.free q
        by_cases hm : q ∈ qs
        · rw [decide_eq_true hm] at ct
          clear hm
          go_wp2_with fail
          go_roundw
          case rel => exact ⟨i + 1, qs, by omega, by go_num, rfl, HQ, HT, HB, HP, HU⟩
          case measure => simp [intOf] <;> omega
        · rw [decide_eq_false hm] at ct
          by_cases hl : qs.length < t + 2
          · have hl1 : decide ((t : Int) + 2 ≤ (qs.length : Int)) = false := decide_eq_false (by omega)
            have hl2 : ¬ (t : Int) + 2 ≤ (qs.length : Int) := by omega
            have HQ2 := Lib.hid (HQ.out.snoc hqN hm hl)
            have HSN := Lib.hid (flips_snoc W qs q)
            have HLN : Hid ((qs ++ [q]).length = qs.length + 1) := by show _ = _; simp
            have HFL : Hid ((flips W qs).length = k + m) := by show _ = _; rw [flips_length, HWL.out]
            have T2 : Hid (BoolRow (wr.setCell ⟨gt, q, none⟩ (.bool true)) gt N (fun j => decide (j ∈ qs ++ [q]))) := (HT.out.set q true).congr fun j _ => (mem_snoc_eq qs q j).symm
            have B2 := Lib.hid (HB.out.other (i := q) (v := .bool true) HNE.out.2.2.2.1)
            have P2 := Lib.hid (HP.out.other (i := q) (v := .bool true) HNE.out.2.2.2.2.1)
            have U2 := Lib.hid (HU.out.setCell (p := ⟨gt, q, none⟩) (.inr HGS.out.1) (.bool true))
            obtain ⟨ws, hws⟩ : ∃ ws, wr.setCell ⟨gt, q, none⟩ (.bool true) = ws := ⟨_, rfl⟩
            rw [hws] at T2 B2 P2 U2
            have hl8 : (qs.length : Int) ≤ 10 := by omega
            by_cases h8 : q < 8 * k
            · have h8t : decide ((q : Int) < 8 * (k : Int)) = true := decide_eq_true (by omega)
              obtain ⟨a8, ha8⟩ : ∃ a8, q / 8 = a8 := ⟨_, rfl⟩
              obtain ⟨b8, hb8⟩ : ∃ b8, q % 8 = b8 := ⟨_, rfl⟩
              have hak : a8 < k := by omega
              have hb88 : b8 < 8 := by omega
              have hq8 : (q : Int) / 8 = (a8 : Int) := by omega
              have hr8 : (q : Int) % 8 = (b8 : Int) := by omega
              have HNX : Hid ((flips W (qs ++ [q])).take k = flipB ((flips W qs).take k) q ∧ (flips W (qs ++ [q])).drop k = (flips W qs).drop k) := by
                rw [HSN.out]; exact ⟨flip_take _ q k h8 (by rw [HFL.out]; omega), flip_drop_lt _ q k h8⟩
              have hTl : ((flips W qs).take k).length = k := by rw [List.length_take, HFL.out]; omega
              have HX1 : Hid (∀ Z, ByteRow Z gb k 5 (fun j => (((flips W qs).take k).getD j 0).toNat) → ∃ o z : Nat, o < 256 ∧ z = o ^^^ 2 ^ (7 - b8) ∧ Z.cell? ⟨gb, a8, none⟩ = some (.int .u8 (o : Int)) ∧ Z.frozen? ⟨gb, a8, none⟩ = false ∧ ByteRow (Z.setCell ⟨gb, a8, none⟩ (.int .u8 (z : Int))) gb k 5 (fun j => (((flips W (qs ++ [q])).take k).getD j 0).toNat)) := fun Z hZ => by
                refine ⟨(((flips W qs).take k).getD a8 0).toNat, _, UInt8.toNat_lt _, rfl, hZ.cell a8 hak, hZ.free a8 hak, ?_⟩
                have h9 := flip_row (q := q) hZ hTl (by omega)
                rw [ha8, hb8] at h9
                rw [HNX.out.1]
                exact h9
              have hsh : (128 : Int) / 2 ^ b8 = ((2 ^ (7 - b8) : Nat) : Int) := shr_128 ⟨b8, hb88⟩
              obtain ⟨o, z, ho8, hz, d1, d2, F1⟩ := HX1.out ws B2.out
              have hxr := byte_xor o b8 ho8 hb88
              rw [← hz] at hxr
              have FB := Lib.hid F1
              have FT := Lib.hid (T2.out.other (i := a8) (v := .int .u8 (z : Int)) HNE.out.1)
              have FP := Lib.hid (P2.out.other (i := a8) (v := .int .u8 (z : Int)) HNE.out.2.2.2.2.2)
              have FU := Lib.hid (U2.out.setCell (p := ⟨gb, a8, none⟩) (.inr HGS.out.2.1) (.int .u8 (z : Int)))
              clear hm ha8 hb8 hTl hz HX1 F1
              generalize 2 ^ (7 - b8) = y at *
              go_upto_region 15 with fail
              try rw [hws]
              have d1' : ws.drew.cell? ⟨gb, a8, none⟩ = some (.int .u8 (o : Int)) := d1
              have d2' : ws.drew.frozen? ⟨gb, a8, none⟩ = false := d2
              clear d1 d2 hws
              go_region
              go_wp2_with fail
              go_roundw
              case rel => exact ⟨i + 1, qs ++ [q], by omega, by go_num, by rw [HLN.out]; go_num, HQ2, FT.out.grow (Upd.refl _ _).drew, FB.out.grow (Upd.refl _ _).drew, by rw [HNX.out.2]; exact FP.out.grow (Upd.refl _ _).drew, FU.out.drew⟩
              case measure => simp [intOf] <;> omega
            · have h8t : decide ((q : Int) < 8 * (k : Int)) = false := decide_eq_false (by omega)
              obtain ⟨j, hj⟩ : ∃ j, q - 8 * k = j := ⟨_, rfl⟩
              have e3 : (q : Int) - 8 * (k : Int) = (j : Int) := by omega
              obtain ⟨a8, ha8⟩ : ∃ a8, j / 8 = a8 := ⟨_, rfl⟩
              obtain ⟨b8, hb8⟩ : ∃ b8, j % 8 = b8 := ⟨_, rfl⟩
              have hak : a8 < m := by have := HNK.out; omega
              have hb88 : b8 < 8 := by omega
              have hj2 : j ≤ 2152 := by omega
              have hq8 : (j : Int) / 8 = (a8 : Int) := by omega
              have hr8 : (j : Int) % 8 = (b8 : Int) := by omega
              have HNX : Hid ((flips W (qs ++ [q])).take k = (flips W qs).take k ∧ (flips W (qs ++ [q])).drop k = flipB ((flips W qs).drop k) j) := by
                rw [HSN.out, ← hj]; exact ⟨flip_take_ge _ q k (by omega), flip_drop _ q k (by omega)⟩
              have hTl : ((flips W qs).drop k).length = m := by rw [List.length_drop, HFL.out]; omega
              have HX1 : Hid (∀ Z, ByteRow Z gp m 5 (fun j => (((flips W qs).drop k).getD j 0).toNat) → ∃ o z : Nat, o < 256 ∧ z = o ^^^ 2 ^ (7 - b8) ∧ Z.cell? ⟨gp, a8, none⟩ = some (.int .u8 (o : Int)) ∧ Z.frozen? ⟨gp, a8, none⟩ = false ∧ ByteRow (Z.setCell ⟨gp, a8, none⟩ (.int .u8 (z : Int))) gp m 5 (fun j => (((flips W (qs ++ [q])).drop k).getD j 0).toNat)) := fun Z hZ => by
                refine ⟨(((flips W qs).drop k).getD a8 0).toNat, _, UInt8.toNat_lt _, rfl, hZ.cell a8 hak, hZ.free a8 hak, ?_⟩
                have h9 := flip_row (q := j) hZ hTl (by omega)
                rw [ha8, hb8] at h9
                rw [HNX.out.2]
                exact h9
              have hsh : (128 : Int) / 2 ^ b8 = ((2 ^ (7 - b8) : Nat) : Int) := shr_128 ⟨b8, hb88⟩
              obtain ⟨o, z, ho8, hz, d1, d2, F1⟩ := HX1.out ws P2.out
              have hxr := byte_xor o b8 ho8 hb88
              rw [← hz] at hxr
              have FP := Lib.hid F1
              have FT := Lib.hid (T2.out.other (i := a8) (v := .int .u8 (z : Int)) HNE.out.2.1)
              have FB := Lib.hid (B2.out.other (i := a8) (v := .int .u8 (z : Int)) HNE.out.2.2.1)
              have FU := Lib.hid (U2.out.setCell (p := ⟨gp, a8, none⟩) (.inr HGS.out.2.2) (.int .u8 (z : Int)))
              clear hm ha8 hb8 hTl hz HX1 F1 hj
              generalize 2 ^ (7 - b8) = y at *
              go_upto_region 17 with fail
              try rw [hws]
              have d1' : ws.drew.cell? ⟨gp, a8, none⟩ = some (.int .u8 (o : Int)) := d1
              have d2' : ws.drew.frozen? ⟨gp, a8, none⟩ = false := d2
              clear d1 d2 hws e3
              go_region
              go_wp2_with fail
              go_roundw
              case rel => exact ⟨i + 1, qs ++ [q], by omega, by go_num, by rw [HLN.out]; go_num, HQ2, FT.out.grow (Upd.refl _ _).drew, by rw [HNX.out.1]; exact FB.out.grow (Upd.refl _ _).drew, FP.out.grow (Upd.refl _ _).drew, FU.out.drew⟩
              case measure => simp [intOf] <;> omega
          · have hl1 : decide ((t : Int) + 2 ≤ (qs.length : Int)) = true := decide_eq_true (by omega)
            have hl2 : (t : Int) + 2 ≤ (qs.length : Int) := by omega
            clear hm
            go_wp2_with fail
            go_roundw
            case rel => exact ⟨i + 1, qs, by omega, by go_num, rfl, HQ, HT, HB, HP, HU⟩
            case measure => simp [intOf] <;> omega
    · obtain rfl : i = n := by omega
      have hTl1 : ((flips W qs).take k).length = k := by rw [List.length_take, flips_length, HWL.out]; omega
      have hTl2 : ((flips W qs).drop k).length = m := by rw [List.length_drop, flips_length, HWL.out]; omega
      have hcv1 := row_text (w := wr.drew) HB.out 0 k c1 hTl1 (by omega)
      have hcv2 := row_text (w := wr.drew) HP.out 0 m c2 hTl2 (by omega)
      rw [List.drop_zero, List.take_of_length_le (by rw [hTl1]; exact Nat.le_refl _)] at hcv1
      rw [List.drop_zero, List.take_of_length_le (by rw [hTl2]; exact Nat.le_refl _)] at hcv2
      have hl8 : (qs.length : Int) ≤ 10 := by have := HQ.out.le; omega
      have HFIN := Lib.hid (HFA.out qs _ wr.drew HQ.out rfl HU.out.drew)
      clear hTl1 hTl2
      generalize (⟨((flips W qs).take k).toArray⟩ : ByteArray) = qa at *
      generalize (⟨((flips W qs).drop k).toArray⟩ : ByteArray) = qb at *
      go_wp2
      go_region
      all_goals
        go_wp2_with fail
        go_ret3
        exact HFIN.out
end Go.Proofs.Ytjfbbnmonfankaa
