/- ConsoleBlanks, walked. -/
import Derived.Test.YthcjogigkagmdaaGreatDoorCpl
import Derived.Test.YthcjogigkagmdaaGreatDoorCpj
namespace Go.Proofs.YthcjogigkagmdaaGreatDoor
open Go.RowKit
set_option linter.unusedVariables false

/-- what holds ahead of each round: the text T, its place i, the bytes out, in a quoted text or not -/
structure BkJ (wb wr : World) (p q : Bool) (T : List UInt8) (i : Nat) (k : Nat) (L : List UInt8) (v : Value) : Prop where
  own : OwnB wr wb.heap.size v L
  up : Upd noBlock wb wr
  wid : Con.widL p q 0 T = L ++ Con.widL p q k (T.drop i)
  ok : Con.okL k (T.drop i) = true
  len : L.length ≤ 10 * i
/-- one byte on -/
theorem bk_step {p q : Bool} {T L : List UInt8} {i k k2 : Nat} {c : UInt8} {e : List UInt8} (hc : T[i]? = some c) (h : Con.widL p q 0 T = L ++ Con.widL p q k (T.drop i)) (hk : ∀ r, Con.widL p q k (c :: r) = c :: (e ++ Con.widL p q k2 r)) : Con.widL p q 0 T = (L ++ [c]) ++ e ++ Con.widL p q k2 (T.drop (i + 1)) := by
  rw [h, Con.drop_at hc, hk]; simp
theorem bk_zero {wb wr : World} {p q : Bool} {T L : List UInt8} {i k k2 : Nat} {v : Value} {c : UInt8} (h : BkJ wb wr p q T i k L v) (hc : T[i]? = some c) (hk : ∀ r, Con.widL p q k (c :: r) = c :: Con.widL p q k2 r) (ho : ∀ r, Con.okL k (c :: r) = true → Con.okL k2 r = true) :
    ∀ v2 w2, OwnB w2 wb.heap.size v2 (L ++ [c]) → Upd noBlock wb w2 → BkJ wb w2 p q T (i + 1) k2 (L ++ [c]) v2 := fun v2 w2 h1 h2 =>
  ⟨h1, h2, by rw [h.wid, Con.drop_at hc, hk]; simp, ho _ (by rw [← Con.drop_at hc]; exact h.ok), by have := h.len; rw [List.length_append, List.length_singleton]; omega⟩
theorem bk_more {wb wr : World} {p q : Bool} {T L e : List UInt8} {i k k2 : Nat} {v : Value} {c : UInt8} (h : BkJ wb wr p q T i k L v) (hc : T[i]? = some c) (hk : ∀ r, Con.widL p q k (c :: r) = c :: (e ++ Con.widL p q k2 r)) (ho : ∀ r, Con.okL k (c :: r) = true → Con.okL k2 r = true) (he : e.length ≤ 9) :
    ∀ v2 w2, OwnB w2 wb.heap.size v2 (L ++ [c] ++ e) → Upd noBlock wb w2 → BkJ wb w2 p q T (i + 1) k2 (L ++ [c] ++ e) v2 := fun v2 w2 h1 h2 =>
  ⟨h1, h2, by rw [h.wid, Con.drop_at hc, hk]; simp, ho _ (by rw [← Con.drop_at hc]; exact h.ok), by have := h.len; rw [List.length_append, List.length_append, List.length_singleton]; omega⟩
theorem bk_two {wb wr : World} {p q : Bool} {T L : List UInt8} {i : Nat} {v : Value} {c y : UInt8} (h : BkJ wb wr p q T i 1 L v) (hc : T[i]? = some c) (h92 : c = 92) (hy : T[i + 1]? = some y) :
    ∀ v2 w2, OwnB w2 wb.heap.size v2 (L ++ [c] ++ [y]) → Upd noBlock wb w2 → BkJ wb w2 p q T (i + 1 + 1) 1 (L ++ [c] ++ [y]) v2 := fun v2 w2 h1 h2 => by
  subst h92
  refine ⟨h1, h2, ?_, ?_, by have := h.len; rw [List.length_append, List.length_append, List.length_singleton, List.length_singleton]; omega⟩
  · rw [h.wid, Con.drop_at hc, Con.drop_at hy, Con.widL, if_neg (by decide), if_pos rfl, if_pos rfl, Con.widL, if_pos rfl]; simp
  · have h3 := h.ok
    rw [Con.drop_at hc, Con.drop_at hy, Con.okL, if_neg (by decide), if_pos rfl, if_pos rfl, Con.okL, if_pos rfl] at h3
    exact h3
set_option maxRecDepth 100000 in
set_option maxHeartbeats 1600000 in
theorem blanks_loop (x : ByteArray) (n : Int) (w : World) (hg : Gl w) (hx : x.size ≤ 140737488351232) (hC : (Con.parseL x.data.toList).2.1 = 0) (hlen : (Con.showL (Con.parseL x.data.toList).1).length ≤ 9000) : Calls Tryz.prog 8 #[.string x, .int .i64 n] w fun e w' => e = .returned (.bool true) ∧ Upd noBlock w w' := by
  obtain ⟨i0, hi0, hz0, hz1, hz2⟩ := byteParts
  have HSP := Lib.hid (speaks_any w hg)
  have HG := Lib.hid (fun W (h : Upd noBlock w W) => hg.grow h)
  have HPX : Hid (∀ W, Upd noBlock w W → _) := fun W h => parse_s x W (hg.grow h) hx
  rw [hC, parse_ok0 _ hC] at HPX
  have hgood := Con.parseL_good x.data.toList
  obtain ⟨s, hs⟩ : ∃ s, (Con.parseL x.data.toList).1 = s := ⟨_, rfl⟩
  rw [hs] at HPX hgood hlen
  have HSH : Hid (∀ W g1 g2 g3 g4 g5 a m c, Upd noBlock w W → ShIn W s g1 g2 g3 g4 g5 a m c → Calls Tryz.prog 14 #[.agg #[.int .i64 g1, .int .i64 g2, .int .i64 g3, .int .i64 g4, .int .i64 g5, .slice a m c]] W fun e w' => e = .returned (.string ⟨(Con.showL s).toArray⟩) ∧ Upd noBlock W w') := fun W g1 g2 g3 g4 g5 a m c h h2 => show_any s g1 g2 g3 g4 g5 a m c W (hg.grow h) h2
  obtain ⟨T, hT⟩ : ∃ T : ByteArray, (⟨(Con.showL s).toArray⟩ : ByteArray) = T := ⟨_, rfl⟩
  rw [hT] at HSH
  have hTl : T.data.toList = Con.showL s ∧ T.size = (Con.showL s).length := by rw [← hT]; exact ⟨rfl, rfl⟩
  have HT9 : Hid (T.size ≤ 9000) := by show _ ≤ _; rw [hTl.2]; exact hlen
  have hTs : IntKind.i64.wrap (T.size : Int) = (T.size : Int) := IntWalk.i64_in _ (by have := HT9.out; omega)
  have dT : decide ((9000 : Int) < (T.size : Int)) = false := decide_eq_false (by have := HT9.out; omega)
  obtain ⟨p, hp⟩ : ∃ p, (Int.tmod n 2 == 1) = p := ⟨_, rfl⟩
  obtain ⟨q, hq⟩ : ∃ q, decide (0 < Int.tmod n 3) = q := ⟨_, rfl⟩
  have HPT : Hid (∀ (y : ByteArray) W, y.data.toList = Con.widL p q 0 T.data.toList → Upd noBlock w W → y.size ≤ 140737488351232 → _) := fun y W hy h hz => parse_s y W (HG.out W h) hz
  have HWD : Hid (∀ y : ByteArray, y.data.toList = Con.widL p q 0 T.data.toList → Con.parseL y.data.toList = (s, 0, 0)) := fun y hy => by rw [hy, hTl.1]; exact Con.parse_wide p q hgood hlen
  have HOK : Hid (Con.okL 0 T.data.toList = true) := by show _ = _; rw [hTl.1]; exact Con.ok_show hgood
  have HTZ : Hid (T.data.toList.length = T.size) := rfl
  clear hC hs hT hg hgood hTl hlen
  go_enter Tryz.func8, Tryz.ntmps8
  go_wp2_with (go_at_call 9; (with_reducible refine HSP.out.mono ?_); rintro e w1 ⟨rfl, hu⟩; have U1 := Lib.hid hu; clear hu)
  refine (HPX.out _ U1.out).mono ?_
  rintro e w2 ⟨g1, g2, g3, g4, g5, a, m, c, rfl, hs, hu⟩
  have U2 : Hid (∀ o1 o2, Upd noBlock w ((w2.alloc o1).alloc o2)) := fun o1 o2 => ((U1.out.trans hu).alloc o1).alloc o2
  have HS2 : Hid (∀ o1 o2, ShIn ((w2.alloc o1).alloc o2) s g1 g2 g3 g4 g5 a m c) := fun o1 o2 => hs.grow (((Upd.refl _ _).alloc o1).alloc o2)
  have HN1 := Lib.hid (two_new w2 (.cells #[.int .i64 g1, .int .i64 g2, .int .i64 g3, .int .i64 g4, .int .i64 g5, .slice a m c] 27) (.cells (fauC 0 0) 30)).2
  clear hs hu
  go_wp2_with (go_at_call 14; (with_reducible refine (HSH.out _ _ _ _ _ _ _ _ _ (U2.out _ _) (HS2.out _ _)).mono ?_); rintro e w3 ⟨rfl, hu⟩; have U3 := Lib.hid ((U2.out _ _).trans hu); obtain ⟨⟨f0, f1⟩, _⟩ := fau_cells (hu.cells HN1.out (fun h => h)); clear hu)
  have H0 : Hid (BkJ w3 w3 p q T.data.toList 0 0 [] (.slice none 0 0)) := ⟨OwnB.nil _ _, Upd.refl _ _, rfl, HOK.out, Nat.zero_le _⟩
  go_loopw [8, 9, 10] (fun v b i wr => ∃ (j k : Nat) (L : List UInt8), j ≤ T.size ∧ i = .int .i64 (j : Int) ∧ b = .bool (k == 1) ∧ k ≤ 1 ∧ Hid (BkJ w3 wr p q T.data.toList j k L v)) (fun _ _ i _ => T.size - (intOf i).toNat)
  case atStart => exact ⟨0, 0, [], Nat.zero_le _, rfl, rfl, by omega, H0⟩
  case round =>
    clear H0
    obtain ⟨j, k, L, hj, rfl, rfl, hk, HJ⟩ := hrel
    by_cases hjs : j < T.size
    · obtain ⟨c, hc⟩ : ∃ c, T[j]'hjs = c := ⟨_, rfl⟩
      have hget : T.data.toList[j]? = some c := by
        rw [Array.getElem?_toList, ← hc]; exact Array.getElem?_eq_getElem hjs
      have h9 := HT9.out
      have dj : decide ((j : Int) < (T.size : Int)) = true := decide_eq_true (by omega)
      have hwj : IntKind.i64.wrap ((j : Int) + 1) = (j : Int) + 1 := IntWalk.i64_in _ (by omega)
      have HO := Lib.hid HJ.out.own
      have HU := Lib.hid HJ.out.up
      have HLL := Lib.hid HJ.out.len
      have hok := HJ.out.ok
      rw [Con.drop_at hget] at hok
      have HB : Hid (∀ m, m ≤ 20 → L.length + m ≤ maxLen ∧ (L.length + m) * 1 ≤ 140737488355328) := fun m hm => by have := HLL.out; unfold maxLen; omega
      have U0 : Hid (Upd noBlock wr (wr.alloc (.cells #[.int .u8 (c.toNat : Int)] 5))) := (Upd.refl _ _).alloc _
      have R0 : Hid (Row1 (wr.alloc (.cells #[.int .u8 (c.toNat : Int)] 5)) (wr.heap.size + 1) (some ⟨wr.heap.size, 0, none⟩) 1 [.int .u8 (c.toNat : Int)]) := Row1.arr wr 5 #[.int .u8 (c.toNat : Int)]
      have H1 : Hid (∀ u ∈ [Value.int .u8 (c.toNat : Int)], u.oneCell' = true) := by intro u hu; simp at hu; subst hu; rfl
      by_cases hk1 : k = 1
      · subst hk1
        by_cases h92 : c = 92
        · have HC := Lib.hid h92
          obtain ⟨y, hy⟩ : ∃ y, T.data.toList[j + 1]? = some y := by
            cases hh : T.data.toList[j + 1]? with
            | some y => exact ⟨y, rfl⟩
            | none =>
              rw [h92, Con.okL, if_neg (by decide), if_pos rfl, if_pos rfl, List.drop_eq_nil_of_le (by rw [List.getElem?_eq_none_iff] at hh; exact hh)] at hok
              cases hok
          have hj1 : j + 1 < T.size := by have h7 := (List.getElem?_eq_some_iff.1 hy).1; rw [HTZ.out] at h7; exact h7
          have hyc : T[j + 1]'hj1 = y := by
            have h8 : T.data.toList[j + 1]? = some (T[j + 1]'hj1) := by rw [Array.getElem?_toList]; exact Array.getElem?_eq_getElem hj1
            rw [hy] at h8; exact (Option.some.inj h8).symm
          have hw2 : IntKind.i64.wrap ((j : Int) + 1 + 1) = (j : Int) + 1 + 1 := IntWalk.i64_in _ (by omega)
          have e92 : ((c.toNat : Int) == 92) = true := by rw [h92]; rfl
          have HN := Lib.hid (bk_two HJ.out hget h92 hy)
          have V2 : Hid (∀ u ∈ [Value.int .u8 (y.toNat : Int)], u.oneCell' = true) := by intro u hu; simp at hu; subst hu; rfl
          clear hget hok hj HJ h92 hy
          go_wp2_with (first | (at_builtin; refine wpList_append_vals _ rfl (.tmp 40) (.tmp 42) _ rfl w3.heap.size 5 i0 (.int .u8 0) 1 Tryz.underlying62 hi0 hz0 hz1 hz2 rfl u8 L.length (bc L) rfl (HO.out.grow U0.out) (wr.heap.size + 1) (some ⟨wr.heap.size, 0, none⟩) 1 1 [.int .u8 (c.toNat : Int)] rfl R0.out H1.out (HB.out 1 (by omega)).1 (HB.out 1 (by omega)).2 (HU.out.trans U0.out).size ?_; intro v2 w4 hO hg _; have HQ := Lib.hid (own_more (k := [c]) HO.out rfl HU.out U0.out rfl rfl hO hg); clear hO hg) | (at_builtin; go_loud (refine wpList_append_vals _ rfl (.tmp 51) (.tmp 55) _ rfl w3.heap.size 5 i0 (.int .u8 0) 1 Tryz.underlying62 hi0 hz0 hz1 hz2 rfl v2 (L ++ [c]).length (bc (L ++ [c])) rfl (HQ.out.1.grow ((Upd.refl _ _).alloc (.cells #[.int .u8 (y.toNat : Int)] 5))) (w4.heap.size + 1) (some ⟨w4.heap.size, 0, none⟩) 1 1 [.int .u8 (y.toNat : Int)] rfl (Row1.arr w4 5 #[.int .u8 (y.toNat : Int)]) V2.out (by have h8 := (HB.out 20 (by omega)).1; rw [List.length_append, List.length_singleton]; omega) (by have h8 := (HB.out 20 (by omega)).2; rw [List.length_append, List.length_singleton]; omega) (HQ.out.2.alloc _).size ?_; intro v5 w5 hO hg _; have HQ2 := Lib.hid (own_more (k := [y]) HQ.out.1 rfl HQ.out.2 ((Upd.refl _ _).alloc _) rfl rfl hO hg); clear hO hg)))
          exact ⟨⟨j + 1 + 1, 1, _, by omega, by simp, rfl, by omega, HN.out _ _ HQ2.out.1 HQ2.out.2⟩, by simp only [intOf]; omega⟩
        by_cases h34 : c = 34
        · have HH := Lib.hid h34
          have e92 : ((c.toNat : Int) == 92) = false := by rw [h34]; rfl
          have e34 : ((c.toNat : Int) == 34) = true := by rw [h34]; rfl
          have e32 : ((c.toNat : Int) == 32) = false := by rw [h34]; rfl
          have e10 : ((c.toNat : Int) == 10) = false := by rw [h34]; rfl
          have HN := Lib.hid (bk_zero (k2 := 0) HJ.out hget (fun r => by rw [h34]; rfl) (fun r h => by rw [h34] at h; exact h))
          clear hget hok hj HJ HH h34 h92
          go_wp2_with (first | (at_builtin; refine wpList_append_vals _ rfl (.tmp 40) (.tmp 42) _ rfl w3.heap.size 5 i0 (.int .u8 0) 1 Tryz.underlying62 hi0 hz0 hz1 hz2 rfl u8 L.length (bc L) rfl (HO.out.grow U0.out) (wr.heap.size + 1) (some ⟨wr.heap.size, 0, none⟩) 1 1 [.int .u8 (c.toNat : Int)] rfl R0.out H1.out (HB.out 1 (by omega)).1 (HB.out 1 (by omega)).2 (HU.out.trans U0.out).size ?_; intro v2 w4 hO hg _; have HQ := Lib.hid (own_more (k := [c]) HO.out rfl HU.out U0.out rfl rfl hO hg); clear hO hg))
          exact ⟨⟨j + 1, 0, _, by omega, by simp, rfl, by omega, HN.out _ _ HQ.out.1 HQ.out.2⟩, by simp only [intOf]; omega⟩
        have h10 : c ≠ 10 := by
          intro h10
          rw [Con.okL, if_neg (by decide), if_pos rfl, if_neg h92, if_neg h34, h10] at hok
          simp at hok
        by_cases h32 : c = 32
        · have HH := Lib.hid h32
          have e92 : ((c.toNat : Int) == 92) = false := by rw [beq_eq_false_iff_ne]; exact u8n h92
          have e34 : ((c.toNat : Int) == 34) = false := by rw [beq_eq_false_iff_ne]; exact u8n h34
          have e32 : ((c.toNat : Int) == 32) = true := by rw [h32]; rfl
          have e10 : ((c.toNat : Int) == 10) = false := by rw [beq_eq_false_iff_ne]; exact u8n h10
          have HN := Lib.hid (bk_zero (k2 := 1) HJ.out hget (fun r => Con.wid_in p q r h92 h34) (fun r h => by rw [Con.ok_in r h92 h34 h10] at h; exact h))
          clear hget hok hj HJ HH h34 h92 h10 h32
          go_wp2_with (first | (at_builtin; refine wpList_append_vals _ rfl (.tmp 40) (.tmp 42) _ rfl w3.heap.size 5 i0 (.int .u8 0) 1 Tryz.underlying62 hi0 hz0 hz1 hz2 rfl u8 L.length (bc L) rfl (HO.out.grow U0.out) (wr.heap.size + 1) (some ⟨wr.heap.size, 0, none⟩) 1 1 [.int .u8 (c.toNat : Int)] rfl R0.out H1.out (HB.out 1 (by omega)).1 (HB.out 1 (by omega)).2 (HU.out.trans U0.out).size ?_; intro v2 w4 hO hg _; have HQ := Lib.hid (own_more (k := [c]) HO.out rfl HU.out U0.out rfl rfl hO hg); clear hO hg))
          exact ⟨⟨j + 1, 1, _, by omega, by simp, rfl, by omega, HN.out _ _ HQ.out.1 HQ.out.2⟩, by simp only [intOf]; omega⟩
        · have HH := Lib.hid h32
          have e92 : ((c.toNat : Int) == 92) = false := by rw [beq_eq_false_iff_ne]; exact u8n h92
          have e34 : ((c.toNat : Int) == 34) = false := by rw [beq_eq_false_iff_ne]; exact u8n h34
          have e32 : ((c.toNat : Int) == 32) = false := by rw [beq_eq_false_iff_ne]; exact u8n h32
          have e10 : ((c.toNat : Int) == 10) = false := by rw [beq_eq_false_iff_ne]; exact u8n h10
          have HN := Lib.hid (bk_zero (k2 := 1) HJ.out hget (fun r => Con.wid_in p q r h92 h34) (fun r h => by rw [Con.ok_in r h92 h34 h10] at h; exact h))
          clear hget hok hj HJ HH h34 h92 h10 h32
          go_wp2_with (first | (at_builtin; refine wpList_append_vals _ rfl (.tmp 40) (.tmp 42) _ rfl w3.heap.size 5 i0 (.int .u8 0) 1 Tryz.underlying62 hi0 hz0 hz1 hz2 rfl u8 L.length (bc L) rfl (HO.out.grow U0.out) (wr.heap.size + 1) (some ⟨wr.heap.size, 0, none⟩) 1 1 [.int .u8 (c.toNat : Int)] rfl R0.out H1.out (HB.out 1 (by omega)).1 (HB.out 1 (by omega)).2 (HU.out.trans U0.out).size ?_; intro v2 w4 hO hg _; have HQ := Lib.hid (own_more (k := [c]) HO.out rfl HU.out U0.out rfl rfl hO hg); clear hO hg))
          exact ⟨⟨j + 1, 1, _, by omega, by simp, rfl, by omega, HN.out _ _ HQ.out.1 HQ.out.2⟩, by simp only [intOf]; omega⟩
      · obtain rfl : k = 0 := by omega
        by_cases h34 : c = 34
        · have HH := Lib.hid h34
          have e34 : ((c.toNat : Int) == 34) = true := by rw [h34]; rfl
          have e32 : ((c.toNat : Int) == 32) = false := by rw [h34]; rfl
          have e10 : ((c.toNat : Int) == 10) = false := by rw [h34]; rfl
          have HN := Lib.hid (bk_zero (k2 := 1) HJ.out hget (fun r => by rw [h34]; rfl) (fun r h => by rw [h34] at h; exact h))
          clear hget hok hj HJ HH h34 hk1
          go_wp2_with (first | (at_builtin; refine wpList_append_vals _ rfl (.tmp 40) (.tmp 42) _ rfl w3.heap.size 5 i0 (.int .u8 0) 1 Tryz.underlying62 hi0 hz0 hz1 hz2 rfl u8 L.length (bc L) rfl (HO.out.grow U0.out) (wr.heap.size + 1) (some ⟨wr.heap.size, 0, none⟩) 1 1 [.int .u8 (c.toNat : Int)] rfl R0.out H1.out (HB.out 1 (by omega)).1 (HB.out 1 (by omega)).2 (HU.out.trans U0.out).size ?_; intro v2 w4 hO hg _; have HQ := Lib.hid (own_more (k := [c]) HO.out rfl HU.out U0.out rfl rfl hO hg); clear hO hg))
          exact ⟨⟨j + 1, 1, _, by omega, by simp, rfl, by omega, HN.out _ _ HQ.out.1 HQ.out.2⟩, by simp only [intOf]; omega⟩
        by_cases h32 : c = 32
        · have HH := Lib.hid h32
          cases hpp : p with
          | true =>
            have e34 : ((c.toNat : Int) == 34) = false := by rw [beq_eq_false_iff_ne]; exact u8n h34
            have e32 : ((c.toNat : Int) == 32) = true := by rw [h32]; rfl
            have e10 : ((c.toNat : Int) == 10) = false := by rw [h32]; rfl
            have HN := Lib.hid (bk_more (k2 := 0) (e := [32, 32]) HJ.out hget (fun r => by rw [h32, hpp]; rfl) (fun r h => by rw [Con.okL, if_neg (by decide), if_neg (by decide), if_neg h34] at h; exact h) (by decide))
            rw [hpp] at hp HN
            clear hget hok hj HJ HH h34 h32 hk1
            go_wp2_with (first | (at_builtin; refine wpList_append_vals _ rfl (.tmp 40) (.tmp 42) _ rfl w3.heap.size 5 i0 (.int .u8 0) 1 Tryz.underlying62 hi0 hz0 hz1 hz2 rfl u8 L.length (bc L) rfl (HO.out.grow U0.out) (wr.heap.size + 1) (some ⟨wr.heap.size, 0, none⟩) 1 1 [.int .u8 (c.toNat : Int)] rfl R0.out H1.out (HB.out 1 (by omega)).1 (HB.out 1 (by omega)).2 (HU.out.trans U0.out).size ?_; intro v2 w4 hO hg _; have HQ := Lib.hid (own_more (k := [c]) HO.out rfl HU.out U0.out rfl rfl hO hg); clear hO hg) | (at_builtin; go_loud (refine Lib.wpList_append_own_string _ rfl (.tmp 72) (.const (.string ⟨#[32, 32]⟩)) 62 9 rfl w3.heap.size 5 i0 Tryz.underlying62 Tryz.underlying9 hi0 hz0 hz1 hz2 v2 (L ++ [c]).length (bc (L ++ [c])) rfl HQ.out.1 ⟨#[32, 32]⟩ rfl (by have h8 := (HB.out 20 (by omega)).1; rw [List.length_append, List.length_singleton]; show L.length + 1 + 2 ≤ _; omega) (by have h8 := (HB.out 20 (by omega)).2; rw [List.length_append, List.length_singleton]; show (L.length + 1 + 2) ≤ _; omega) HQ.out.2.size ?_; intro v5 w5 hO hg _; have HQ2 := Lib.hid (own_more (k := [32, 32]) HQ.out.1 rfl HQ.out.2 (Upd.refl _ _) rfl rfl hO hg); clear hO hg)))
            exact ⟨⟨j + 1, 0, _, by omega, by simp, rfl, by omega, HN.out _ _ HQ2.out.1 HQ2.out.2⟩, by simp only [intOf]; omega⟩
          | false =>
            have e34 : ((c.toNat : Int) == 34) = false := by rw [beq_eq_false_iff_ne]; exact u8n h34
            have e32 : ((c.toNat : Int) == 32) = true := by rw [h32]; rfl
            have e10 : ((c.toNat : Int) == 10) = false := by rw [h32]; rfl
            have HN := Lib.hid (bk_zero (k2 := 0) HJ.out hget (fun r => by rw [h32, hpp]; rfl) (fun r h => by rw [Con.okL, if_neg (by decide), if_neg (by decide), if_neg h34] at h; exact h))
            rw [hpp] at hp HN
            clear hget hok hj HJ HH h34 h32 hk1
            go_wp2_with (first | (at_builtin; refine wpList_append_vals _ rfl (.tmp 40) (.tmp 42) _ rfl w3.heap.size 5 i0 (.int .u8 0) 1 Tryz.underlying62 hi0 hz0 hz1 hz2 rfl u8 L.length (bc L) rfl (HO.out.grow U0.out) (wr.heap.size + 1) (some ⟨wr.heap.size, 0, none⟩) 1 1 [.int .u8 (c.toNat : Int)] rfl R0.out H1.out (HB.out 1 (by omega)).1 (HB.out 1 (by omega)).2 (HU.out.trans U0.out).size ?_; intro v2 w4 hO hg _; have HQ := Lib.hid (own_more (k := [c]) HO.out rfl HU.out U0.out rfl rfl hO hg); clear hO hg))
            exact ⟨⟨j + 1, 0, _, by omega, by simp, rfl, by omega, HN.out _ _ HQ.out.1 HQ.out.2⟩, by simp only [intOf]; omega⟩
        by_cases h10 : c = 10
        · have HH := Lib.hid h10
          cases hqq : q with
          | true =>
            have e34 : ((c.toNat : Int) == 34) = false := by rw [beq_eq_false_iff_ne]; exact u8n h34
            have e32 : ((c.toNat : Int) == 32) = false := by rw [beq_eq_false_iff_ne]; exact u8n h32
            have e10 : ((c.toNat : Int) == 10) = true := by rw [h10]; rfl
            have HN := Lib.hid (bk_more (k2 := 0) (e := [10, 35, 32, 110, 111, 10, 32, 32, 10]) HJ.out hget (fun r => by rw [h10, hqq]; rfl) (fun r h => by rw [Con.okL, if_neg (by decide), if_neg (by decide), if_neg h34] at h; exact h) (by decide))
            rw [hqq] at hq HN
            clear hget hok hj HJ HH h34 h32 h10 hk1
            go_wp2_with (first | (at_builtin; refine wpList_append_vals _ rfl (.tmp 40) (.tmp 42) _ rfl w3.heap.size 5 i0 (.int .u8 0) 1 Tryz.underlying62 hi0 hz0 hz1 hz2 rfl u8 L.length (bc L) rfl (HO.out.grow U0.out) (wr.heap.size + 1) (some ⟨wr.heap.size, 0, none⟩) 1 1 [.int .u8 (c.toNat : Int)] rfl R0.out H1.out (HB.out 1 (by omega)).1 (HB.out 1 (by omega)).2 (HU.out.trans U0.out).size ?_; intro v2 w4 hO hg _; have HQ := Lib.hid (own_more (k := [c]) HO.out rfl HU.out U0.out rfl rfl hO hg); clear hO hg) | (at_builtin; go_loud (refine Lib.wpList_append_own_string _ rfl (.tmp 81) (.const (.string ⟨#[10, 35, 32, 110, 111, 10, 32, 32, 10]⟩)) 62 9 rfl w3.heap.size 5 i0 Tryz.underlying62 Tryz.underlying9 hi0 hz0 hz1 hz2 v2 (L ++ [c]).length (bc (L ++ [c])) rfl HQ.out.1 ⟨#[10, 35, 32, 110, 111, 10, 32, 32, 10]⟩ rfl (by have h8 := (HB.out 20 (by omega)).1; rw [List.length_append, List.length_singleton]; show L.length + 1 + 9 ≤ _; omega) (by have h8 := (HB.out 20 (by omega)).2; rw [List.length_append, List.length_singleton]; show (L.length + 1 + 9) ≤ _; omega) HQ.out.2.size ?_; intro v5 w5 hO hg _; have HQ2 := Lib.hid (own_more (k := [10, 35, 32, 110, 111, 10, 32, 32, 10]) HQ.out.1 rfl HQ.out.2 (Upd.refl _ _) rfl rfl hO hg); clear hO hg)))
            exact ⟨⟨j + 1, 0, _, by omega, by simp, rfl, by omega, HN.out _ _ HQ2.out.1 HQ2.out.2⟩, by simp only [intOf]; omega⟩
          | false =>
            have e34 : ((c.toNat : Int) == 34) = false := by rw [beq_eq_false_iff_ne]; exact u8n h34
            have e32 : ((c.toNat : Int) == 32) = false := by rw [beq_eq_false_iff_ne]; exact u8n h32
            have e10 : ((c.toNat : Int) == 10) = true := by rw [h10]; rfl
            have HN := Lib.hid (bk_zero (k2 := 0) HJ.out hget (fun r => by rw [h10, hqq]; rfl) (fun r h => by rw [Con.okL, if_neg (by decide), if_neg (by decide), if_neg h34] at h; exact h))
            rw [hqq] at hq HN
            clear hget hok hj HJ HH h34 h32 h10 hk1
            go_wp2_with (first | (at_builtin; refine wpList_append_vals _ rfl (.tmp 40) (.tmp 42) _ rfl w3.heap.size 5 i0 (.int .u8 0) 1 Tryz.underlying62 hi0 hz0 hz1 hz2 rfl u8 L.length (bc L) rfl (HO.out.grow U0.out) (wr.heap.size + 1) (some ⟨wr.heap.size, 0, none⟩) 1 1 [.int .u8 (c.toNat : Int)] rfl R0.out H1.out (HB.out 1 (by omega)).1 (HB.out 1 (by omega)).2 (HU.out.trans U0.out).size ?_; intro v2 w4 hO hg _; have HQ := Lib.hid (own_more (k := [c]) HO.out rfl HU.out U0.out rfl rfl hO hg); clear hO hg))
            exact ⟨⟨j + 1, 0, _, by omega, by simp, rfl, by omega, HN.out _ _ HQ.out.1 HQ.out.2⟩, by simp only [intOf]; omega⟩
        · have HH := Lib.hid h10
          have e34 : ((c.toNat : Int) == 34) = false := by rw [beq_eq_false_iff_ne]; exact u8n h34
          have e32 : ((c.toNat : Int) == 32) = false := by rw [beq_eq_false_iff_ne]; exact u8n h32
          have e10 : ((c.toNat : Int) == 10) = false := by rw [beq_eq_false_iff_ne]; exact u8n h10
          have HN := Lib.hid (bk_zero (k2 := 0) HJ.out hget (fun r => by rw [Con.widL, if_neg (by decide), if_neg (by decide), if_neg h34, if_neg h32, if_neg h10]) (fun r h => by rw [Con.okL, if_neg (by decide), if_neg (by decide), if_neg h34] at h; exact h))
          clear hget hok hj HJ HH h34 h32 h10 hk1
          go_wp2_with (first | (at_builtin; refine wpList_append_vals _ rfl (.tmp 40) (.tmp 42) _ rfl w3.heap.size 5 i0 (.int .u8 0) 1 Tryz.underlying62 hi0 hz0 hz1 hz2 rfl u8 L.length (bc L) rfl (HO.out.grow U0.out) (wr.heap.size + 1) (some ⟨wr.heap.size, 0, none⟩) 1 1 [.int .u8 (c.toNat : Int)] rfl R0.out H1.out (HB.out 1 (by omega)).1 (HB.out 1 (by omega)).2 (HU.out.trans U0.out).size ?_; intro v2 w4 hO hg _; have HQ := Lib.hid (own_more (k := [c]) HO.out rfl HU.out U0.out rfl rfl hO hg); clear hO hg))
          exact ⟨⟨j + 1, 0, _, by omega, by simp, rfl, by omega, HN.out _ _ HQ.out.1 HQ.out.2⟩, by simp only [intOf]; omega⟩
    · obtain rfl : j = T.size := by omega
      have dj : decide ((T.size : Int) < (T.size : Int)) = false := decide_eq_false (by omega)
      have HO := Lib.hid HJ.out.own
      have HU := Lib.hid HJ.out.up
      have hLW : Con.widL p q 0 T.data.toList = L := by
        have h1 := HJ.out.wid
        rw [List.drop_eq_nil_of_le (by rw [HTZ.out]; exact Nat.le_refl _)] at h1
        rw [h1]
        have : Con.widL p q k [] = [] := by cases k <;> rfl
        rw [this, List.append_nil]
      obtain ⟨Y, hY⟩ : ∃ Y : ByteArray, (⟨L.toArray⟩ : ByteArray) = Y := ⟨_, rfl⟩
      have hYd : Y.data.toList = L := by rw [← hY]
      have hYw : Y.data.toList = Con.widL p q 0 T.data.toList := by rw [hYd, hLW]
      have hYz : Y.size = L.length := by rw [← hYd]; rfl
      have HPY : Hid (∀ W, Upd noBlock w W → _) := fun W h => HPT.out Y W hYw h (by have := HJ.out.len; have := HT9.out; omega)
      rw [HWD.out Y hYw] at HPY
      have t2 := HJ.out.own.text
      rw [hY] at t2
      clear hjs hj HJ hLW hY hYd hYw hYz HPT HWD
      go_wp2_with fail
      refine (HPY.out _ (U3.out.trans HU.out)).mono ?_
      rintro e w4 ⟨h1, h2, h3, h4, h5, b, m2, c2, rfl, hs, hu⟩
      have U4 : Hid (∀ o1 o2, Upd noBlock w ((w4.alloc o1).alloc o2)) := fun o1 o2 => (((U3.out.trans HU.out).trans hu).alloc o1).alloc o2
      have HS4 : Hid (∀ o1 o2, ShIn ((w4.alloc o1).alloc o2) s h1 h2 h3 h4 h5 b m2 c2) := fun o1 o2 => hs.grow (((Upd.refl _ _).alloc o1).alloc o2)
      clear hs hu
      go_wp2_with (go_at_call 14; (with_reducible refine (HSH.out _ _ _ _ _ _ _ _ _ (U4.out _ _) (HS4.out _ _)).mono ?_); rintro e w5 ⟨rfl, hu⟩; have U5 := Lib.hid ((U4.out _ _).trans hu); clear hu)
      go_ret
      exact ⟨rfl, U5.out⟩
end Go.Proofs.YthcjogigkagmdaaGreatDoor
