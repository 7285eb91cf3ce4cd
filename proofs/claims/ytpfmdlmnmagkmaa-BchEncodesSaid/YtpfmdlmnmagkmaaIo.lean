/- The document's bits of a text, and the text of bits. -/
import Derived.Test.YtpfmdlmnmagkmaaIn
import Derived.Test.YtpfmdlmnmagkmaaOw
namespace Go.Proofs.Ytpfmdlmnmagkmaa
open Go.RowKit Pm

set_option maxRecDepth 100000 in
set_option maxHeartbeats 3200000 in
theorem refBits_any (s : ByteArray) (w : World) (hs : s.size ≤ 1000) :
    Calls Try.prog 22 #[.string s] w fun e w' => ∃ v, e = .returned v ∧ OwnI w' w.heap.size v (bl (8 * s.size) (dbit s.data.toList)) ∧ Upd noBlock w w' := by
  obtain ⟨i0, hi0, hz0, hz1, hz2⟩ := intPartsI
  obtain ⟨n, hn⟩ : ∃ n, s.size = n := ⟨_, rfl⟩
  have HB : Hid (∀ k q (h : k < s.size), q < 8 → dbit s.data.toList (8 * k + (7 - q)) = s[k].toNat.testBit q) := by
    intro k q h hq
    unfold dbit bb
    rw [show (8 * k + (7 - q)) / 8 = k by omega, show (8 * k + (7 - q)) % 8 = 7 - q by omega, List.getD_eq_getElem?_getD, List.getElem?_eq_getElem (by simpa using h), show 7 - (7 - q) = q by omega]
    rfl
  generalize hD : dbit s.data.toList = D at *
  clear hD
  go_enter Try.func22, Try.ntmps22
  go_wp2
  go_loopw [3, 4] (fun v i wr => ∃ k : Nat, k ≤ n ∧ i = .int .i64 (k : Int) ∧ Hid (OwnI wr w.heap.size v (bl (8 * k) D)) ∧ Hid (Upd noBlock w wr)) (fun _ i _ => n - (intOf i).toNat)
  case atStart => exact ⟨0, Nat.zero_le _, rfl, OwnI.nil _ _, Upd.refl _ _⟩
  case round =>
    obtain ⟨k, hk, rfl, HO, HU⟩ := hrel
    by_cases h0 : k < n
    · have hks : k < s.size := by omega
      have HBk := Lib.hid (fun q => HB.out k q hks)
      obtain ⟨b, hb⟩ : ∃ b, s[k].toNat = b := ⟨_, rfl⟩
      have hb8 : b < 256 := by rw [← hb]; exact s[k].toNat_lt
      rw [hb] at HBk
      have hsz : s.size ≤ 9223372036854775807 := by omega
      go_wp2
      obtain ⟨wo, rfl⟩ : ∃ wo : World, wo = wr := ⟨_, rfl⟩
      go_loopw [3, 5] (fun v i wr => ∃ m : Nat, m ≤ 8 ∧ i = .int .i64 ((m : Int) - 1) ∧ Hid (OwnI wr w.heap.size v (bl (8 * k + (8 - m)) D)) ∧ Hid (Upd noBlock w wr)) (fun _ i _ => (intOf i + 1).toNat)
      case atStart => exact ⟨8, Nat.le_refl _, rfl, HO, HU⟩
      case round =>
        clear HO HU
        obtain ⟨m, hm, rfl, HO, HU⟩ := hrel
        rcases m with _ | q
        · go_wp2
          go_roundw
          case rel => exact ⟨k + 1, by omega, by go_num, HO, HU⟩
          case measure => simp [intOf]; omega
        · have eq : (((q + 1 : Nat) : Int) - 1) = (q : Int) := by omega
          rw [eq]
          have HW : Hid (IntKind.i64.wrap ((q : Int) - 1) = (q : Int) - 1) := by show _ = _; rw [IntKind.wrap_i64]; omega
          obtain ⟨z, hz⟩ : ∃ z, bi (D (8 * k + (7 - q))) = z := ⟨_, rfl⟩
          have hv : bits .and .u8 ((b : Int) / 2 ^ q) 1 = z := by
            have e := u8_bit b q hb8
            rw [Int.natCast_ediv, Int.natCast_pow] at e
            refine e.trans ?_
            rw [← hz, HBk.out q (by omega)]
            cases b.testBit q <;> rfl
          have hw : wrap64 z = z := by rw [← hz]; cases D (8 * k + (7 - q)) <;> (unfold wrap64; decide)
          have HO2 := Lib.hid (HO.out.grow ((Upd.refl noBlock wr).alloc (.cells #[.int .i64 z] 3)))
          have HU2 := Lib.hid (HU.out.alloc (.cells #[.int .i64 z] 3))
          have HI := Lib.hid (ints_one wr z)
          have HL : Hid ((bl (8 * k + (8 - (q + 1))) D).length ≤ 8100) := by show _ ≤ _; rw [bl_length]; omega
          have HNX : Hid (bl (8 * k + (8 - q)) D = bl (8 * k + (8 - (q + 1))) D ++ [z]) := by
            show _ = _
            rw [show 8 * k + (8 - q) = 8 * k + (8 - (q + 1)) + 1 by omega, bl_succ, ← hz, show 8 * k + (8 - (q + 1)) = 8 * k + (7 - q) by omega]
          have hbase := HU.out.size
          clear hz
          generalize hL : bl (8 * k + (8 - (q + 1))) D = L at *
          clear hL
          go_wp2_with (at_builtin; refine wpList_append_ints _ rfl (.tmp 16) (.tmp 24) _ rfl w.heap.size 3 i0 _ Try.underlying34 hi0 hz0 hz1 hz2 rfl _ L.length (vals L) rfl HO2.out (wr.heap.size + 1) (some ⟨wr.heap.size, 0, none⟩) 1 1 [z] rfl HI.out (by have := HL.out; simp only [maxLen]; omega) (by have := HL.out; omega) (by simp; omega) ?_; intro v3 w3 hown3 hg3 _)
          go_roundw
          case rel => exact ⟨q, by omega, by go_num, by rw [HNX.out]; exact OwnI.snoc rfl hown3, upd_of_grown HU2.out hg3 (fun i hi => .inr (HO2.out.lt i hi))⟩
          case measure => simp [intOf]
    · obtain rfl : k = n := by omega
      go_wp2
      go_ret
      exact ⟨_, rfl, by rw [hn]; exact HO.out, HU.out⟩
end Go.Proofs.Ytpfmdlmnmagkmaa
