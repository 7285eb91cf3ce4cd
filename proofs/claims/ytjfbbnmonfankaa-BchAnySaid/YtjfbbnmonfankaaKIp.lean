/- The document's Degree and Encode: long division. -/
import Derived.Test.YtjfbbnmonfankaaKGIo
import Derived.Test.YtjfbbnmonfankaaKDc
import Derived.Test.YtjfbbnmonfankaaKGHu
namespace Go.Proofs.Ytjfbbnmonfankaa
open Go.RowKit Pm

theorem gen_cell (t : Nat) (h1 : 1 ≤ t) (h8 : t ≤ 8) (k : Nat) (hk : k < (exps (GG t)).length) : ∃ e : Nat, (exps (GG t)).getD k 0 = (e : Int) ∧ e ≤ 13 * t := by
  obtain ⟨he, _, htl⟩ := gen_list t h1 h8
  rw [he] at hk ⊢
  cases k with
  | zero => exact ⟨13 * t, rfl, Nat.le_refl _⟩
  | succ k =>
    obtain ⟨e, h, hl⟩ := htl k (by simpa using hk)
    exact ⟨e, h, by omega⟩
theorem gen_head (t : Nat) (h1 : 1 ≤ t) (h8 : t ≤ 8) : (exps (GG t)).getD 0 0 = ((13 * t : Nat) : Int) ∧ 0 < (exps (GG t)).length ∧ (exps (GG t)).length ≤ 105 := by
  obtain ⟨he, hl, _⟩ := gen_list t h1 h8
  refine ⟨by rw [he]; rfl, by rw [he]; simp, hl⟩
theorem gg_same (t : Nat) (h8 : t ≤ 8) : Doc.GG t = GG t := by rw [Doc.GG_val t h8, GG_val t h8]; rfl
/-- the document's Generator, as a list -/
theorem docGen_any (t : Nat) (ht1 : 1 ≤ t) (ht8 : t ≤ 8) (W : World) : Calls Try.prog 21 #[.int .i64 (t : Int)] W fun e w' => ∃ p n c, e = .returned (.slice p n c) ∧ Ints w' w'.heap.size p n (exps (GG t)) ∧ n ≤ c ∧ n ≤ maxLen ∧ Upd noBlock W w' :=
  (Doc.rGenerator_any t W ht1 ht8).mono fun e w' ⟨v, he, hp, hu⟩ => by
    rw [gg_same t ht8] at hp
    obtain ⟨p, n, c, rfl, h1, h2, h3, _⟩ := hp.gp (Nat.le_refl _)
    exact ⟨p, n, c, he, h1, h3, h2, hu⟩
set_option maxRecDepth 100000 in
theorem refDegree_any (t : Nat) (w : World) (ht1 : 1 ≤ t) (ht8 : t ≤ 8) :
    Calls Try.prog 12 #[.int .i64 (t : Int)] w fun e w' => e = .returned (.int .i64 ((13 * t : Nat) : Int)) ∧ Upd noBlock w w' := by
  obtain ⟨hg, hg0, _⟩ := gen_head t ht1 ht8
  have HGEN := Lib.hid (docGen_any t ht1 ht8)
  generalize exps (GG t) = L at *
  generalize 13 * t = d at *
  have HD := Lib.hid hg
  clear hg ht1 ht8
  go_enter Try.func12, Try.ntmps12
  go_wp2_with (go_at_call 21; refine (HGEN.out _).mono ?_; rintro e w1 ⟨p, n, c, rfl, hi1, hnc, hnm, hu1⟩; have HL := Lib.hid hi1.1; have hn0 : 0 < n := (by have := HL.out; omega); obtain ⟨g, off, rfl, hgl, hc1⟩ := hi1.cell hn0; have k0 := hc1 0 hn0; rw [HD.out, Nat.add_zero] at k0; have U1 := Lib.hid hu1; clear hc1 hi1 hu1)
  go_ret
  exact ⟨rfl, U1.out⟩
theorem flp_take (L : List Int) (j b p : Nat) (hj : j < L.length) : flp (L.take (j + 1)) b p = (flp (L.take j) b p != decide (p = b - (L.getD j 0).toNat)) := by
  rw [List.take_succ_eq_append_getElem hj, flp_snoc, List.getD_eq_getElem?_getD, List.getElem?_eq_getElem hj]
  rfl
theorem bi_xor1 (b : Bool) : bits .xor .i64 (bi b) 1 = bi (!b) := by cases b <;> decide +kernel
set_option maxRecDepth 100000 in
set_option maxHeartbeats 6400000 in
theorem refEncode_any (t : Nat) (s : ByteArray) (w : World) (ht1 : 1 ≤ t) (ht8 : t ≤ 8) (hs : s.size ≤ 1000) :
    Calls Try.prog 14 #[.int .i64 (t : Int), .string s] w fun e w' => e = .returned (.string ⟨(parT t s.data.toList).toArray⟩) ∧ Upd noBlock w w' := by
  obtain ⟨i0, hi0, hz0, hz1, hz2⟩ := intPartsI
  obtain ⟨hg, hg0, hg105⟩ := gen_head t ht1 ht8
  have HE := Lib.hid (parT_txt t ht1 ht8 s.data.toList)
  rw [show s.data.toList.length = s.size by simp] at HE
  have HCE := Lib.hid (gen_cell t ht1 ht8)
  have HGEN := Lib.hid (docGen_any t ht1 ht8)
  have HRS : Hid (∀ i p, rows (exps (GG t)) (13 * t) s.data.toList (i + 1) p = (rows (exps (GG t)) (13 * t) s.data.toList i p != (rows (exps (GG t)) (13 * t) s.data.toList i i && flp (exps (GG t)) (i + 13 * t) p))) := fun i p => rfl
  have HFAR : Hid (∀ p, 8 * s.size ≤ p → rows (exps (GG t)) (13 * t) s.data.toList 0 p = false) := fun p h => dbit_far _ p (by simpa using h)
  have hd104 : 13 * t ≤ 104 := by omega
  have hd1 : 1 ≤ 13 * t := by omega
  have HBITS : Hid (∀ W, Calls Try.prog 22 #[.string s] W fun e w' => ∃ v, e = .returned v ∧ OwnI w' W.heap.size v (bl (8 * s.size) (rows (exps (GG t)) (13 * t) s.data.toList 0)) ∧ Upd noBlock W w') := fun W => refBits_any s W hs
  generalize rows (exps (GG t)) (13 * t) s.data.toList = RW at *
  generalize parT t s.data.toList = Z at *
  generalize exps (GG t) = L at *
  generalize 13 * t = d at *
  obtain ⟨m, hm⟩ : ∃ m, 8 * s.size = m := ⟨_, rfl⟩
  rw [hm] at HE HFAR HBITS
  have hm8000 : m ≤ 8000 := by omega
  clear hm ht1 ht8 hs
  have HD := Lib.hid hg
  clear hg
  go_enter Try.func14, Try.ntmps14
  go_wp2_with (first
    | (go_at_call 21; refine (HGEN.out _).mono ?_; rintro e w1 ⟨p, n, c, rfl, hi1, hnc, hnm, hu1⟩; have HL := Lib.hid hi1.1; have hn0 : 0 < n := (by have := HL.out; omega); have hn105 : n ≤ 105 := (by have := HL.out; omega); obtain ⟨g, off, rfl, hgl, hc1⟩ := hi1.cell hn0; have k0 := hc1 0 hn0; rw [HD.out, Nat.add_zero] at k0; have HI1 := Lib.hid hi1; have U1 := Lib.hid hu1; clear hc1 hi1 hu1)
    | (go_at_call 22; refine (HBITS.out _).mono ?_; rintro e w2 ⟨v2, rfl, ho2, hu2⟩; have HO2 := Lib.hid ho2; have U2 := Lib.hid hu2; clear ho2 hu2))
  go_loopw [7, 8] (fun v i wr => ∃ k : Nat, k ≤ d ∧ i = .int .i64 (k : Int) ∧ Hid (OwnI wr w1.heap.size v (bl (m + k) (RW 0))) ∧ Hid (Upd noBlock w1 wr)) (fun _ i _ => d - (intOf i).toNat)
  case atStart => exact ⟨0, Nat.zero_le _, rfl, HO2, U2⟩
  case round =>
    clear HO2 U2
    obtain ⟨k, hk, rfl, HO, HU⟩ := hrel
    by_cases h0 : k < d
    · have HO2 := Lib.hid (HO.out.grow ((Upd.refl noBlock wr).alloc (.cells #[.int .i64 0] 3)))
      have HU2 := Lib.hid (HU.out.alloc (.cells #[.int .i64 0] 3))
      have HI := Lib.hid (ints_one wr 0)
      have HLN : Hid ((bl (m + k) (RW 0)).length ≤ 8200) := by show _ ≤ _; rw [bl_length]; omega
      have HNX : Hid (bl (m + (k + 1)) (RW 0) = bl (m + k) (RW 0) ++ [0]) := by
        show _ = _
        rw [← Nat.add_assoc, bl_succ, HFAR.out (m + k) (by omega)]; rfl
      have hbase := HU.out.size
      generalize bl (m + k) (RW 0) = B0 at *
      go_wp2_with (at_builtin; refine wpList_append_ints _ rfl (.tmp 23) (.tmp 24) _ rfl w1.heap.size 3 i0 _ Try.underlying34 hi0 hz0 hz1 hz2 rfl _ B0.length (vals B0) rfl HO2.out (wr.heap.size + 1) (some ⟨wr.heap.size, 0, none⟩) 1 1 [0] rfl HI.out (by have := HLN.out; simp only [maxLen]; omega) (by have := HLN.out; omega) (by simp; omega) ?_; intro v3 w3 hown3 hg3 _)
      go_roundw
      case rel => exact ⟨k + 1, by omega, by go_num, by rw [HNX.out]; exact OwnI.snoc rfl hown3, upd_of_grown HU2.out hg3 (fun i hi => .inr (HO2.out.lt i hi))⟩
      case measure => simp [intOf]; omega
    · obtain rfl : k = d := by omega
      have hlt : decide ((k : Int) < (k : Int)) = false := decide_eq_false (by omega)
      obtain ⟨N, hN⟩ : ∃ N, m + k = N := ⟨_, rfl⟩
      rw [hN] at HO
      have HN : Hid (m + k = N) := hN
      have hNp : 0 < N := by omega
      have hN8 : N ≤ 8200 := by omega
      have hbl : ∀ f, (bl N f).length = N := fun f => bl_length N f
      obtain ⟨g2, cap, hv2, hb2, hlt2, _, _, _⟩ := HO.out.cells (by rw [hbl]; exact hNp)
      rw [hbl] at hv2
      subst hv2
      have hcap : N ≤ cap := by have := own_cap HO.out; rw [hbl] at this; exact this
      clear hN hlt h0 hk
      go_wp2
      obtain ⟨wo, rfl⟩ : ∃ wo : World, wo = wr := ⟨_, rfl⟩
      go_loopw [9] (fun i wr => ∃ q : Nat, q ≤ m ∧ i = .int .i64 (q : Int) ∧ Hid (OwnI wr w1.heap.size (.slice (some ⟨g2, 0, none⟩) N cap) (bl N (RW q))) ∧ Hid (Upd noBlock w1 wr)) (fun i _ => m - (intOf i).toNat)
      case atStart => exact ⟨0, Nat.zero_le _, rfl, HO, HU⟩
      case round =>
        clear HO HU
        obtain ⟨q, hq, rfl, HO, HU⟩ := hrel
        obtain ⟨qk, hqk⟩ : ∃ qk, q + k = qk := ⟨_, rfl⟩
        have HQK : Hid (q + k = qk) := hqk
        have hw1 : IntKind.i64.wrap ((q : Int) + (k : Int)) = (qk : Int) := by rw [IntKind.wrap_i64]; omega
        by_cases h0 : q < m
        · have hlt : qk < N := by have := HN.out; omega
          have hqN : q < N := by have := HN.out; omega
          obtain ⟨_, _, hv3, _, _, hc3, hf3, _⟩ := HO.out.cells (by rw [hbl]; exact hNp)
          rw [hbl] at hv3
          cases hv3
          have c1 := hc3 q (by rw [hbl]; exact hqN)
          rw [bl_getD N _ q hqN] at c1
          have c1f := hf3 q
          have HR1 := Lib.hid (HRS.out q)
          clear hc3 hf3 hqk
          cases hR : RW q q
          · rw [hR] at c1 HR1
            have c1' : wr.cell? ⟨g2, q, none⟩ = some (.int .i64 0) := c1
            have HNX : Hid (bl N (RW (q + 1)) = bl N (RW q)) := bl_congr fun p _ => by rw [HR1.out p, Bool.false_and]; cases RW q p <;> rfl
            clear c1 hR
            go_wp2
            go_roundw
            case rel => exact ⟨q + 1, by omega, by go_num, by rw [HNX.out]; exact HO, HU⟩
            case measure => simp [intOf]; omega
          · rw [hR] at c1 HR1
            have c1' : wr.cell? ⟨g2, q, none⟩ = some (.int .i64 1) := c1
            clear c1 hR
            go_wp2
            obtain ⟨wp, rfl⟩ : ∃ wp : World, wp = wr := ⟨_, rfl⟩
            go_loopw [10] (fun i wr => ∃ j : Nat, j ≤ n ∧ i = .int .i64 (j : Int) ∧ Hid (OwnI wr w1.heap.size (.slice (some ⟨g2, 0, none⟩) N cap) (bl N fun p => (RW q p != flp (L.take j) (q + k) p))) ∧ Hid (Upd noBlock w1 wr)) (fun i _ => n - (intOf i).toNat)
            case atStart => exact ⟨0, Nat.zero_le _, rfl, by show OwnI _ _ _ _; rw [bl_congr (g := RW q) fun p _ => by show (RW q p != flp [] _ _) = _; show (RW q p != false) = _; cases RW q p <;> rfl]; exact HO.out, HU⟩
            case round =>
              clear HO HU c1f c1'
              obtain ⟨j, hj, rfl, HO, HU⟩ := hrel
              by_cases j0 : j < n
              · obtain ⟨e, he, hek⟩ := HCE.out j (by have := HL.out; omega)
                have HFT := Lib.hid (fun b p => flp_take L j b p (by have := HL.out; omega))
                obtain ⟨g', off', hgo, hgl', hcg⟩ := (HI1.out.grow HU.out (Nat.le_refl _)).cell hn0
                cases hgo
                have cg := hcg j j0
                rw [he] at cg
                rw [he, Int.toNat_natCast] at HFT
                obtain ⟨ix, hix⟩ : ∃ ix, q + k - e = ix := ⟨_, rfl⟩
                have hixN : ix < N := by have := HN.out; omega
                have hw2 : IntKind.i64.wrap ((qk : Int) - (e : Int)) = (ix : Int) := by have := HQK.out; rw [IntKind.wrap_i64]; omega
                obtain ⟨_, _, hv3, _, _, hc3, hf3, hs3⟩ := HO.out.cells (by rw [hbl]; exact hNp)
                rw [hbl] at hv3
                cases hv3
                have c3 := hc3 ix (by rw [hbl]; exact hixN)
                rw [bl_getD N _ ix hixN] at c3
                have f3 := hf3 ix
                have hb1 := bi_xor1 (RW q ix != flp (L.take j) (q + k) ix)
                have HO3 : Hid (OwnI (wr.setCell ⟨g2, ix, none⟩ (.int .i64 (bi (!(RW q ix != flp (L.take j) (q + k) ix))))) w1.heap.size (.slice (some ⟨g2, 0, none⟩) N cap) (bl N fun p => (RW q p != flp (L.take (j + 1)) (q + k) p))) := by
                  have := hs3 wr ix (bi (!(RW q ix != flp (L.take j) (q + k) ix))) rfl
                  have e2 := bl_set N (fun p => (RW q p != flp (L.take j) (q + k) p)) ix
                  rw [e2] at this
                  show OwnI _ _ _ _
                  rw [bl_congr (g := fun p => ((RW q p != flp (L.take j) (q + k) p) != decide (p = ix))) fun p _ => by rw [HFT.out (q + k) p, hix]; cases RW q p <;> cases flp (L.take j) (q + k) p <;> cases decide (p = ix) <;> rfl]
                  exact this
                have HU3 : Hid (Upd noBlock w1 (wr.setCell ⟨g2, ix, none⟩ (.int .i64 (bi (!(RW q ix != flp (L.take j) (q + k) ix)))))) := HU.out.setCell (p := ⟨g2, ix, none⟩) (.inr hb2) _
                clear hc3 hf3 hs3 hcg hix
                generalize bi (RW q ix != flp (L.take j) (q + k) ix) = y at *
                generalize bi (!(RW q ix != flp (L.take j) (q + k) ix)) = z at *
                go_wp2
                go_roundw
                case rel => exact ⟨j + 1, by omega, by go_num, HO3, HU3⟩
                case measure => simp [intOf]; omega
              · obtain rfl : j = n := by omega
                have HNX : Hid ((bl N fun p => (RW q p != flp (L.take j) (q + k) p)) = bl N (RW (q + 1))) := bl_congr fun p _ => by rw [HR1.out p, Bool.true_and, List.take_of_length_le (by have := HL.out; omega)]
                go_wp2
                go_roundw
                case rel => exact ⟨q + 1, by omega, by go_num, by rw [← HNX.out]; exact HO, HU⟩
                case measure => simp [intOf]; omega
        · obtain rfl : q = m := by omega
          have hlt : ¬ qk < N := by have := HN.out; omega
          have hw2 : IntKind.i64.wrap ((N : Int) - (k : Int)) = (q : Int) := by have := HN.out; rw [IntKind.wrap_i64]; omega
          have hsl : ∀ w : World, (Instr.sliceAt 34 (.slice (some ⟨g2, 0, none⟩) N cap) (some (.int .i64 (q : Int))) none none).run Try.prog w = .ok (.slice (if cap = q then some ⟨g2, 0, none⟩ else (some (⟨g2, 0, none⟩ : Addr)).map (·.add q)) (N - q) (cap - q)) w := fun w => Doc.run_slice_hi w 34 3 i0 Try.underlying34 hi0 hz1 _ N cap q (by have := HN.out; omega)
          have HT : Hid (Ints wr wr.heap.size (if cap = q then some ⟨g2, 0, none⟩ else (some (⟨g2, 0, none⟩ : Addr)).map (·.add q)) (N - q) (bl k fun j => RW q (q + j))) := by
            obtain ⟨a, c, hv, hi, _, _⟩ := HO.out.sl
            rw [hbl] at hv hi
            cases hv
            have := Doc.ints_tail wr hi (k := q) (c := cap) (by have := HN.out; omega) hcap
            rw [bl_drop, show N - q = k by have := HN.out; omega] at this
            rw [show N - q = k by have := HN.out; omega]
            exact this
          rw [show N - q = k by have := HN.out; omega] at hsl HT
          generalize (if cap = q then some ⟨g2, 0, none⟩ else (some (⟨g2, 0, none⟩ : Addr)).map (·.add q)) = A1 at *
          go_wp2_with (go_at_call 23; refine (refText_any _ _ _ _ _ _ HT.out (Nat.le_refl _) (by omega)).mono ?_; rintro e w5 ⟨rfl, hu5⟩; have U5 := Lib.hid hu5; clear hu5)
          go_ret
          exact ⟨by rw [HE.out]; rfl, (U1.out.trans HU.out).trans U5.out⟩
end Go.Proofs.Ytjfbbnmonfankaa
