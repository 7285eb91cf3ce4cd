import Derived.Test.YtjfbbnmonfankaaKIn
import Derived.Test.YtjfbbnmonfankaaKOw
/- The document's bits of a text, and the text of bits. -/
namespace Go.Proofs.Ytjfbbnmonfankaa
open Go.RowKit Pm

set_option maxRecDepth 100000 in
set_option maxHeartbeats 3200000 in
theorem refBits_any (s : ByteArray) (w : World) (hs : s.size ≤ 1000) :
    Calls Try.prog 22 #[.string s] w fun e w' => ∃ v, e = .returned v ∧ OwnI w' w.heap.size v (bl (8 * s.size) (dbit s.data.toList)) ∧ Upd noBlock w w' := by
  obtain ⟨i0, hi0, hz0, hz1, hz2⟩ := intPartsI
  obtain ⟨n, hn⟩ : ∃ n, s.size = n := ⟨_, rfl⟩
  have HB : Hid (∀ k q (h : k < s.size), q < 8 → dbit s.data.toList (8 * k + (7 - q)) = s[k].toNat.testBit q) := by
    intro k q h hq
    unfold dbit bb
    rw [show (8 * k + (7 - q)) / 8 = k by omega, show (8 * k + (7 - q)) % 8 = 7 - q by omega, List.getD_eq_getElem?_getD, List.getElem?_eq_getElem (by simpa using h), show 7 - (7 - q) = q by omega]
    rfl
  generalize hD : dbit s.data.toList = D at *
  clear hD
  go_enter Try.func22, Try.ntmps22
  go_wp2
  go_loopw [3, 4] (fun v i wr => ∃ k : Nat, k ≤ n ∧ i = .int .i64 (k : Int) ∧ Hid (OwnI wr w.heap.size v (bl (8 * k) D)) ∧ Hid (Upd noBlock w wr)) (fun _ i _ => n - (intOf i).toNat)
  case atStart => exact ⟨0, Nat.zero_le _, rfl, OwnI.nil _ _, Upd.refl _ _⟩
  case round =>
    obtain ⟨k, hk, rfl, HO, HU⟩ := hrel
    by_cases h0 : k < n
    · have hks : k < s.size := by omega
      have HBk := Lib.hid (fun q => HB.out k q hks)
      obtain ⟨b, hb⟩ : ∃ b, s[k].toNat = b := ⟨_, rfl⟩
      have hb8 : b < 256 := by rw [← hb]; exact s[k].toNat_lt
      rw [hb] at HBk
      have hsz : s.size ≤ 9223372036854775807 := by omega
      go_wp2
      obtain ⟨wo, rfl⟩ : ∃ wo : World, wo = wr := ⟨_, rfl⟩
      go_loopw [3, 5] (fun v i wr => ∃ m : Nat, m ≤ 8 ∧ i = .int .i64 ((m : Int) - 1) ∧ Hid (OwnI wr w.heap.size v (bl (8 * k + (8 - m)) D)) ∧ Hid (Upd noBlock w wr)) (fun _ i _ => (intOf i + 1).toNat)
      case atStart => exact ⟨8, Nat.le_refl _, rfl, HO, HU⟩
      case round =>
        clear HO HU
        obtain ⟨m, hm, rfl, HO, HU⟩ := hrel
        rcases m with _ | q
        · go_wp2
          go_roundw
          case rel => exact ⟨k + 1, by omega, by go_num, HO, HU⟩
          case measure => simp [intOf]; omega
        · have eq : (((q + 1 : Nat) : Int) - 1) = (q : Int) := by omega
          rw [eq]
          have HW : Hid (IntKind.i64.wrap ((q : Int) - 1) = (q : Int) - 1) := by show _ = _; rw [IntKind.wrap_i64]; omega
          obtain ⟨z, hz⟩ : ∃ z, bi (D (8 * k + (7 - q))) = z := ⟨_, rfl⟩
          have hv : bits .and .u8 ((b : Int) / 2 ^ q) 1 = z := by
            have e := u8_bit b q hb8
            rw [Int.natCast_ediv, Int.natCast_pow] at e
            refine e.trans ?_
            rw [← hz, HBk.out q (by omega)]
            cases b.testBit q <;> rfl
          have hw : wrap64 z = z := by rw [← hz]; cases D (8 * k + (7 - q)) <;> (unfold wrap64; decide)
          have HO2 := Lib.hid (HO.out.grow ((Upd.refl noBlock wr).alloc (.cells #[.int .i64 z] 3)))
          have HU2 := Lib.hid (HU.out.alloc (.cells #[.int .i64 z] 3))
          have HI := Lib.hid (ints_one wr z)
          have HL : Hid ((bl (8 * k + (8 - (q + 1))) D).length ≤ 8100) := by show _ ≤ _; rw [bl_length]; omega
          have HNX : Hid (bl (8 * k + (8 - q)) D = bl (8 * k + (8 - (q + 1))) D ++ [z]) := by
            show _ = _
            rw [show 8 * k + (8 - q) = 8 * k + (8 - (q + 1)) + 1 by omega, bl_succ, ← hz, show 8 * k + (8 - (q + 1)) = 8 * k + (7 - q) by omega]
          have hbase := HU.out.size
          clear hz
          generalize hL : bl (8 * k + (8 - (q + 1))) D = L at *
          clear hL
          go_wp2_with (at_builtin; refine wpList_append_ints _ rfl (.tmp 16) (.tmp 24) _ rfl w.heap.size 3 i0 _ Try.underlying34 hi0 hz0 hz1 hz2 rfl _ L.length (vals L) rfl HO2.out (wr.heap.size + 1) (some ⟨wr.heap.size, 0, none⟩) 1 1 [z] rfl HI.out (by have := HL.out; simp only [maxLen]; omega) (by have := HL.out; omega) (by simp; omega) ?_; intro v3 w3 hown3 hg3 _)
          go_roundw
          case rel => exact ⟨q, by omega, by go_num, by rw [HNX.out]; exact OwnI.snoc rfl hown3, upd_of_grown HU2.out hg3 (fun i hi => .inr (HO2.out.lt i hi))⟩
          case measure => simp [intOf]
    · obtain rfl : k = n := by omega
      go_wp2
      go_ret
      exact ⟨_, rfl, by rw [hn]; exact HO.out, HU.out⟩
end Go.Proofs.Ytjfbbnmonfankaa

/- The document's text of bits. -/
namespace Go.Proofs.Ytjfbbnmonfankaa
open Go.RowKit Pm

theorem shr_128 : ∀ m : Fin 8, (128 : Int) / 2 ^ m.val = ((2 ^ (7 - m.val) : Nat) : Int) := by decide
theorem or_256 : ∀ (a b : Fin 256), bits .or .u8 (a.val : Int) (b.val : Int) = ((a.val ||| b.val : Nat) : Int) := by decide +kernel
theorem text_store {w3 : World} {B : Nat} {v : Value} {x : Nat → Bool} {k q m : Nat} (h : OwnB w3 B v (txt1 x k)) (hq : k / 8 = q) (hm : k % 8 = m) (hx : x k = true) :
    ∃ g cap o y, v = .slice (some ⟨g, 0, none⟩) (q + 1) cap ∧ B ≤ g ∧ w3.cell? ⟨g, q, none⟩ = some (.int .u8 ((o : Nat) : Int)) ∧ (∀ i, w3.frozen? ⟨g, i, none⟩ = false) ∧ (128 : Int) / 2 ^ m = ((y : Nat) : Int) ∧ y < 256 ∧
      bits .or .u8 ((o : Nat) : Int) ((y : Nat) : Int) = ((o ||| y : Nat) : Int) ∧
      (∀ w4 : World, w4.heap[g]? = w3.heap[g]? → OwnB (w4.setCell ⟨g, q, none⟩ (.int .u8 ((o ||| y : Nat) : Int))) B v (txt x (k + 1))) := by
  have hl : (txt1 x k).length = q + 1 := by rw [txt1_length, hq]
  obtain ⟨g, cap, h1, h2, _, h4, h5, h6⟩ := h.cells (by omega)
  rw [hl] at h1
  have ho : ((txt1 x k).getD q 0).toNat < 256 := ((txt1 x k).getD q 0).toNat_lt
  have hy : 2 ^ (7 - m) < 2 ^ 8 := Nat.pow_lt_pow_right (by omega) (by omega)
  refine ⟨g, cap, ((txt1 x k).getD q 0).toNat, 2 ^ (7 - m), h1, h2, h4 q (by omega), h5, ?_, hy, ?_, fun w4 hw => ?_⟩
  · exact shr_128 ⟨m, by omega⟩
  · exact or_256 ⟨_, ho⟩ ⟨_, hy⟩
  · have := h6 w4 q (UInt8.ofNat (((txt1 x k).getD q 0).toNat ||| 2 ^ (7 - m))) hw
    have e : (UInt8.ofNat (((txt1 x k).getD q 0).toNat ||| 2 ^ (7 - m))).toNat = ((txt1 x k).getD q 0).toNat ||| 2 ^ (7 - m) := by
      rw [UInt8.toNat_ofNat']
      exact Nat.mod_eq_of_lt (Nat.or_lt_two_pow (n := 8) ho hy)
    rw [e] at this
    rw [← txt1_on x k hx, hq, hm]
    exact this

set_option maxRecDepth 100000 in
set_option maxHeartbeats 3200000 in
theorem refText_any (a : Option Addr) (n c B : Nat) (x : Nat → Bool) (w : World) (hr : Ints w B a n (bl n x)) (hB : B ≤ w.heap.size) (hn : n ≤ 1000) :
    Calls Try.prog 23 #[.slice a n c] w fun e w' => e = .returned (.string ⟨(txt x n).toArray⟩) ∧ Upd noBlock w w' := by
  obtain ⟨i0, hi0, hz0, hz1, hz2⟩ := bytePartsI
  have HR := Lib.hid hr
  have HBB := Lib.hid hB
  clear hr hB
  go_enter Try.func23, Try.ntmps23
  go_wp2
  go_loopw [3, 4] (fun v i wr => ∃ k : Nat, k ≤ n ∧ i = .int .i64 (k : Int) ∧ Hid (OwnB wr w.heap.size v (txt x k)) ∧ Hid (Upd noBlock w wr)) (fun _ i _ => n - (intOf i).toNat)
  case atStart => exact ⟨0, Nat.zero_le _, rfl, OwnB.nil _ _, Upd.refl _ _⟩
  case round =>
    obtain ⟨k, hk, rfl, HO, HU⟩ := hrel
    by_cases h0 : k < n
    · obtain ⟨g, off, rfl, hg, hc⟩ := HR.out.cell (by omega)
      have c0 := hc k h0
      rw [bl_getD _ _ _ h0] at c0
      clear hc
      obtain ⟨q, hq⟩ : ∃ q, k / 8 = q := ⟨_, rfl⟩
      obtain ⟨m, hm⟩ : ∃ m, k % 8 = m := ⟨_, rfl⟩
      have hm8 : m < 8 := by omega
      have hq8 : (k : Int) / 8 = (q : Int) := by omega
      have hr8 : (k : Int) % 8 = (m : Int) := by omega
      have HQ : Hid (k / 8 = q) := hq
      have HM : Hid (k % 8 = m) := hm
      have HL1 : Hid ((txt1 x k).length = q + 1) := by show _ = _; rw [txt1_length, hq]
      have hbase := HU.out.size
      clear hq hm
      have HX : Hid (m = 0 → ∀ w3 v3, w3.ownsRow w.heap.size 5 1 v3 ((txt x k).length + 1) (bc (txt x k) ++ [.int .u8 0]) → OwnB w3 w.heap.size v3 (txt1 x k)) := fun hm w3 v3 h => by
        unfold txt1
        rw [← txt_snoc0 x k (HM.out.trans hm)]
        exact OwnB.join rfl rfl h
      have HX2 : Hid (m ≠ 0 → OwnB wr w.heap.size _ (txt1 x k)) := fun hm => by
        unfold txt1
        rw [← txt_in x k (by have := HM.out; omega)]
        exact HO.out
      have HO1 := Lib.hid (HO.out.grow ((Upd.refl noBlock wr).alloc (.cells #[.int .u8 0] 5)))
      have HU1 := Lib.hid (HU.out.alloc (.cells #[.int .u8 0] 5))
      have HI := Lib.hid (Row1.one wr 5 (.int .u8 0))
      have HL : Hid ((txt x k).length ≤ 200) := by show _ ≤ _; rw [txt_length]; omega
      have HY : Hid (∀ w3 v3, (wr.alloc (.cells #[.int .u8 0] 5)).grownBy w3 v3 → (∀ i, v3 = some i → w.heap.size ≤ i) → Upd noBlock w w3) := fun w3 v3 hg h => upd_of_grown HU1.out hg (fun i hi => .inr (h i hi))
      cases hx : x k
      · rw [hx] at c0
        have HC : Hid (∀ W, Upd noBlock w W → W.cell? ⟨g, off + k, none⟩ = some (.int .i64 0)) := fun W hW => upd_cell hW c0
        have c1 := HC.out wr HU.out
        have HNX := Lib.hid (txt1_off x k hx)
        clear c0 hx
        by_cases hm0 : m = 0
        · have hm1 : ((m : Int) == 0) = true := beq_iff_eq.2 (by omega)
          have HX' := Lib.hid (HX.out hm0)
          clear HX HX2
          go_wp2_with (at_builtin; refine wpList_append_vals _ rfl (.tmp 14) (.tmp 15) _ rfl w.heap.size 5 i0 _ 1 Try.underlying43 hi0 hz0 hz1 hz2 rfl _ (txt x k).length (bc (txt x k)) rfl HO1.out (wr.heap.size + 1) (some ⟨wr.heap.size, 0, none⟩) 1 1 [.int .u8 0] rfl HI.out (by intro u hu; simp at hu; subst hu; rfl) (by have := HL.out; simp only [maxLen]; omega) (by have := HL.out; omega) (by simp; omega) ?_; intro v3 w3 hown3 hg3 _; have U4 : Hid (Upd noBlock w w3) := HY.out _ _ hg3 (fun i hi => HO1.out.lt i hi); have O3 := Lib.hid (HX'.out _ _ hown3); have c3 := HC.out w3 U4.out; clear hown3 hg3)
          go_roundw
          case rel => exact ⟨k + 1, by omega, by go_num, by rw [← HNX.out]; exact O3.out, U4⟩
          case measure => simp [intOf]; omega
        · have hm1 : ((m : Int) == 0) = false := beq_eq_false_iff_ne.2 (by omega)
          have O3 := Lib.hid (HX2.out hm0)
          go_wp2
          go_roundw
          case rel => exact ⟨k + 1, by omega, by go_num, by rw [← HNX.out]; exact O3.out, HU⟩
          case measure => simp [intOf]; omega
      · rw [hx] at c0
        have HC : Hid (∀ W, Upd noBlock w W → W.cell? ⟨g, off + k, none⟩ = some (.int .i64 1)) := fun W hW => upd_cell hW c0
        have c1 := HC.out wr HU.out
        have HST : Hid (∀ W v, OwnB W w.heap.size v (txt1 x k) → _) := fun W v h => text_store h HQ.out HM.out hx
        clear c0 hx
        by_cases hm0 : m = 0
        · have hm1 : ((m : Int) == 0) = true := beq_iff_eq.2 (by omega)
          have HX' := Lib.hid (HX.out hm0)
          clear HX HX2
          go_wp2_with (at_builtin; refine wpList_append_vals _ rfl (.tmp 14) (.tmp 15) _ rfl w.heap.size 5 i0 _ 1 Try.underlying43 hi0 hz0 hz1 hz2 rfl _ (txt x k).length (bc (txt x k)) rfl HO1.out (wr.heap.size + 1) (some ⟨wr.heap.size, 0, none⟩) 1 1 [.int .u8 0] rfl HI.out (by intro u hu; simp at hu; subst hu; rfl) (by have := HL.out; simp only [maxLen]; omega) (by have := HL.out; omega) (by simp; omega) ?_; intro v3 w3 hown3 hg3 _; have U4 : Hid (Upd noBlock w w3) := HY.out _ _ hg3 (fun i hi => HO1.out.lt i hi); have O3 := Lib.hid (HX'.out _ _ hown3); have c3 := HC.out w3 U4.out; clear hown3 hg3)
          obtain ⟨g3, cap3, o, y, hv3, hb3, e1, e2, hy, hy8, hor, hs3⟩ := HST.out _ _ O3.out
          obtain rfl : y = 128 := by rw [hm0] at hy; simp at hy; omega
          have hor2 : bits .or .u8 ((o : Nat) : Int) 128 = ((o ||| 128 : Nat) : Int) := hor
          subst hv3
          have d1 : w3.drew.cell? ⟨g3, q, none⟩ = some (.int .u8 ((o : Nat) : Int)) := e1
          have d2 : w3.drew.frozen? ⟨g3, q, none⟩ = false := e2 q
          have F1 : Hid (OwnB (w3.setCell ⟨g3, q, none⟩ (.int .u8 ((o ||| 128 : Nat) : Int))).drew w.heap.size _ (txt x (k + 1))) := hs3 w3 rfl
          have F2 : Hid (Upd noBlock w (w3.setCell ⟨g3, q, none⟩ (.int .u8 ((o ||| 128 : Nat) : Int))).drew) := (U4.out.setCell (p := ⟨g3, q, none⟩) (.inr hb3) _).drew
          clear e1 e2 hs3 O3
          generalize o ||| 128 = z at *
          go_region
          go_wp2_with fail
          go_roundw
          case rel => exact ⟨k + 1, by omega, by go_num, F1, F2⟩
          case measure => simp [intOf]; omega
        · have hm1 : ((m : Int) == 0) = false := beq_eq_false_iff_ne.2 (by omega)
          have O3 := Lib.hid (HX2.out hm0)
          have U4 := HU
          obtain ⟨g3, cap3, o, y, hv3, hb3, e1, e2, hy, hy8, hor, hs3⟩ := HST.out _ _ O3.out
          subst hv3
          have d1 : wr.drew.cell? ⟨g3, q, none⟩ = some (.int .u8 ((o : Nat) : Int)) := e1
          have d2 : wr.drew.frozen? ⟨g3, q, none⟩ = false := e2 q
          have F1 : Hid (OwnB (wr.setCell ⟨g3, q, none⟩ (.int .u8 ((o ||| y : Nat) : Int))).drew w.heap.size _ (txt x (k + 1))) := hs3 wr rfl
          have F2 : Hid (Upd noBlock w (wr.setCell ⟨g3, q, none⟩ (.int .u8 ((o ||| y : Nat) : Int))).drew) := (U4.out.setCell (p := ⟨g3, q, none⟩) (.inr hb3) _).drew
          clear e1 e2 hs3 O3
          generalize o ||| y = z at *
          go_wp2
          go_region
          go_wp2_with fail
          go_roundw
          case rel => exact ⟨k + 1, by omega, by go_num, F1, F2⟩
          case measure => simp [intOf]; omega
    · obtain rfl : k = n := by omega
      have hcv := HO.out.text
      go_wp2
      go_ret
      exact ⟨rfl, HU.out⟩
end Go.Proofs.Ytjfbbnmonfankaa
