/- Walks: the document's seal. -/
import Derived.Test.YtnppjfaecnikpaaGreatDoorRCe
import Derived.Test.YtnppjfaecnikpaaGreatDoorRGBy
namespace Go.Proofs.YtnppjfaecnikpaaGreatDoor
open Go.RowKit Cm
attribute [local irreducible] Cm.shs Cm.nxt Cm.reg Cm.ext

theorem byteCells1 : (Tryz.prog.info? 5).map (fun i => (i.zero, i.size, i.bytes)) = some (some (.int .u8 0), 1, 1) := by kernel_rfl
theorem byteParts : ∃ i0, Tryz.prog.info? 5 = some i0 ∧ i0.zero = some (.int .u8 0) ∧ i0.size = 1 ∧ i0.bytes = 1 := by
  obtain ⟨i0, h, h1, h2, h3⟩ := info_parts byteCells1
  exact ⟨i0, h, h1, h2, h3⟩
theorem slb_take (c k : Nat) (h : k < 4) : (slb c).take (k + 1) = (slb c).take k ++ [UInt8.ofNat (c / 256 ^ k)] := by
  have : k = 0 ∨ k = 1 ∨ k = 2 ∨ k = 3 := by omega
  rcases this with rfl | rfl | rfl | rfl <;> simp [slb]

set_option maxRecDepth 20000 in
set_option maxHeartbeats 800000 in
theorem refSeal_any (s : ByteArray) (w : World) (hs : s.size ≤ 140737488351232) :
    Calls Tryz.prog 41 #[.string s] w fun e w' => e = .returned (.string ⟨(sealed s.data.toList).toArray⟩) ∧ Upd noBlock w w' := by
  have hm : s.size ≤ maxLen := by unfold maxLen; omega
  have H := fun w => refSum_any s w hm
  have HC := Lib.hid (ext0_lt s.data.toList)
  have HE : Hid (sealed s.data.toList = s.data.toList ++ slb (ext 0 s.data.toList)) := rfl
  obtain ⟨CW, CC, hconv, hcu, hcb⟩ := conv_row (P := Tryz.prog) 9 49 5 Tryz.underlying9 Tryz.underlying49 Tryz.underlying5 s hm
  have hbl : s.data.toList.length ≤ 140737488351232 := hs
  have HL := Lib.hid hbl
  generalize ext 0 s.data.toList = C at *
  generalize s.data.toList = l at *
  clear hbl
  obtain ⟨i0, hi0, hz0, hz1, hz2⟩ := byteParts
  go_enter Tryz.func41, Tryz.ntmps41
  go_wp2_with fail
  refine (H _).mono ?_
  rintro e w1 ⟨rfl, rfl⟩
  clear H
  go_wp2
  go_loopw [3, 4, 5] (fun c v i wr => ∃ k : Nat, k ≤ 4 ∧ i = .int .i64 (k : Int) ∧ c = .int .u32 ((C / 256 ^ k : Nat) : Int) ∧ Hid (Bs wr w.heap.size 5 v (l ++ (slb C).take k)) ∧ Hid (Upd noBlock w wr)) (fun _ _ i _ => 4 - (intOf i).toNat)
  case atStart => exact ⟨0, by omega, rfl, by simp, by have h := hcb.out w; show Bs _ _ _ _ _; rw [List.take_zero, List.append_nil]; exact h, hcu.out w⟩
  case round =>
    clear hconv hcb hcu
    obtain ⟨k, hk, rfl, rfl, HB, HU⟩ := hrel
    by_cases h0 : k < 4
    · have HT := Lib.hid (slb_take C k h0)
      have hd : C / 256 ^ k < 2 ^ 32 := Nat.lt_of_le_of_lt (Nat.div_le_self _ _) HC.out
      have HD : Hid (C / 256 ^ (k + 1) = C / 256 ^ k / 256) := by show _ = _; rw [Nat.pow_succ, Nat.div_div_eq_div_mul]
      generalize C / 256 ^ k = d at *
      have HY : Hid (((UInt8.ofNat d).toNat : Int) = (d : Int) % 256) := by show _ = _; rw [UInt8.toNat_ofNat']; omega
      have HX : Hid ((wr.alloc (.cells #[.int .u8 ((d : Int) % 256)] 5)).cell? ⟨wr.heap.size, 0, none⟩ = some (.int .u8 ((UInt8.ofNat d).toNat : Int))) := by
        show _ = _
        rw [cell_of (heap_alloc_new wr _), HY.out]; rfl
      have HB2 := Lib.hid (HB.out.grow ((Upd.refl noBlock wr).alloc (.cells #[.int .u8 ((d : Int) % 256)] 5)))
      have HU2 := Lib.hid (HU.out.alloc (.cells #[.int .u8 ((d : Int) % 256)] 5))
      have hsz := HU.out.size
      have hln : ((slb C).take k).length ≤ 4 := by rw [List.length_take]; exact Nat.min_le_right k (slb C).length
      have HLN : Hid ((l ++ (slb C).take k).length + 1 ≤ 140737488355328) := by show _ ≤ _; rw [List.length_append]; have := HL.out; omega
      clear HB HU hln
      go_wp2_with (at_builtin; refine wpList_append_byte rfl (.tmp 14) (.tmp 18) _ rfl w.heap.size 5 _ _ rfl HB2.out i0 Tryz.underlying49 hi0 hz0 hz1 hz2 wr.heap.size (UInt8.ofNat d) rfl HX.out HLN.out (by simp; omega) ?_; intro v' w' hb' hu')
      have HB3 := Lib.hid hb'
      have HU3 := Lib.hid (hu' w (Nat.le_refl _) HU2.out)
      clear hb' hu' HB2 HU2
      rw [List.append_assoc, ← HT.out] at HB3
      go_wp2
      go_roundw
      case rel => exact ⟨k + 1, by omega, by go_num, by rw [HD.out]; simp, HB3, HU3⟩
      case measure => simp [intOf]; omega
    · obtain rfl : k = 4 := by omega
      have ht : (slb C).take 4 = slb C := rfl
      rw [ht] at HB
      have hcv := HB.out.text (P := Tryz.prog) 49 9 Tryz.underlying49 Tryz.underlying5 Tryz.underlying9
      clear ht
      go_wp2
      go_ret
      exact ⟨congrArg (fun x : List UInt8 => Ending.returned (.string ⟨x.toArray⟩)) HE.out.symm, HU.out⟩
end Go.Proofs.YtnppjfaecnikpaaGreatDoor
