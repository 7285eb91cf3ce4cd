/- Walks over the document's own checksum and over package crc's. -/
import Derived.Test.YtnppjfaecnikpaaGreatDoorRows
import Derived.Test.YtnppjfaecnikpaaGreatDoorRLib
import Derived.Test.YtnppjfaecnikpaaGreatDoorRGCm
import Derived.WalkKit
import Derived.Lib.Hide
import Derived.WalkSpells
import Derived.WalkLawsBesides
import Derived.BigQuiet
import Derived.Deep.QuietTactic
import Derived.Deep.LoopGhost
namespace Go.Proofs.YtnppjfaecnikpaaGreatDoor
open Go.RowKit Cm
theorem shs_succ (j r : Nat) : shs (j + 1) r = sh (shs j r) := by rw [shs_add]; rfl
theorem reg_take (r : Nat) (s : ByteArray) (k : Nat) (h : k < s.size) : reg r (s.data.toList.take (k + 1)) = nxt (reg r (s.data.toList.take k)) s[k] := by
  have hk : k < s.data.toList.length := by simpa using h
  rw [List.take_succ_eq_append_getElem hk, reg_snoc]
  rfl

theorem sh_odd (t : Nat) (ht : t < 2 ^ 32) (h : t % 2 = 1) : bits .xor .u32 ((t : Int) / 2) 3988292384 = ((sh t : Nat) : Int) := by
  have e : sh t = t / 2 ^^^ 3988292384 := by
    unfold sh
    have hb : t.testBit 0 = true := by simp [Nat.testBit_zero]; exact h
    rw [hb, if_pos rfl, Nat.shiftRight_eq_div_pow]; rfl
  rw [e, ← u32_xor_nat (t / 2) 3988292384 (by omega) (by omega), Int.natCast_ediv]; rfl
theorem sh_even (t : Nat) (h : ¬ t % 2 = 1) : (t : Int) / 2 = ((sh t : Nat) : Int) := by
  have e : sh t = t / 2 := by
    unfold sh
    have hb : t.testBit 0 = false := by simp [Nat.testBit_zero]; omega
    rw [hb, Nat.shiftRight_eq_div_pow]; simp
  rw [e, Int.natCast_ediv]; rfl
attribute [local irreducible] Cm.shs Cm.nxt Cm.reg Cm.ext

set_option maxRecDepth 20000 in
set_option maxHeartbeats 800000 in
theorem refExt_any (c : Nat) (s : ByteArray) (w : World) (hc : c < 2 ^ 32) (hs : s.size ≤ maxLen) :
    Calls Tryz.prog 91 #[.int .u32 (c : Int), .string s] w fun e w' => e = .returned (.int .u32 (ext c s.data.toList : Nat)) ∧ w = w' := by
  unfold maxLen at hs
  have hx0 : bits .xor .u32 (c : Int) 4294967295 = ((c ^^^ ones : Nat) : Int) := u32_xor_nat c 4294967295 hc (by decide)
  have hlt : c ^^^ ones < 2 ^ 32 := Nat.xor_lt_two_pow hc (by decide)
  have HE : Hid (ext c s.data.toList = reg (c ^^^ ones) s.data.toList ^^^ ones) := by unfold ext; rfl
  clear hc
  go_enter Tryz.func91, Tryz.ntmps91
  go_wp2
  generalize c ^^^ ones = r0 at *
  have HL := Lib.hid hlt
  clear hx0 hlt
  go_loop [5, 6, 7, 8] (fun r i _ _ => ∃ k : Nat, k ≤ s.size ∧ i = .int .i64 (k : Int) ∧ r = .int .u32 (reg r0 (s.data.toList.take k) : Nat)) (fun _ i _ _ => s.size - (intOf i).toNat)
  case atStart => exact ⟨0, Nat.zero_le _, rfl, by rw [List.take_zero, reg_nil]⟩
  case round =>
    obtain ⟨k, hk, rfl, rfl⟩ := hrel
    by_cases h0 : k < s.size
    · have HT := Lib.hid (reg_take r0 s k h0)
      have hr := reg_lt (s.data.toList.take k) HL.out
      generalize reg r0 (s.data.toList.take k) = r at *
      have hc := u8_lt s[k]
      have hx : bits .xor .u32 (r : Int) ((s[k].toNat : Int) % 4294967296) = ((r ^^^ s[k].toNat : Nat) : Int) := by
        rw [Int.emod_eq_of_lt (by omega) (by omega)]; exact u32_xor_nat r _ hr (by omega)
      have hx2 : r ^^^ s[k].toNat < 2 ^ 32 := Nat.xor_lt_two_pow hr (by omega)
      have HX := Lib.hid hx2
      have HN : Hid (nxt r s[k] = shs 8 (r ^^^ s[k].toNat)) := by unfold nxt; exact rfl
      clear hr hc hx2
      go_wp2
      clear hx
      generalize hq : r ^^^ s[k].toNat = q at *
      clear hq
      go_loop [5, 7, 8] (fun r j _ => ∃ m : Nat, m ≤ 8 ∧ j = .int .i64 (m : Int) ∧ r = .int .u32 (shs m q : Nat)) (fun _ j _ => 8 - (intOf j).toNat)
      case atStart => exact ⟨0, Nat.zero_le _, rfl, by rw [show shs 0 q = q by unfold shs; rfl]⟩
      case round =>
        obtain ⟨m, hm, rfl, rfl⟩ := hrel
        by_cases h1 : m < 8
        · have HT2 := Lib.hid (shs_succ m q)
          have hr := shs_lt m HX.out
          generalize shs m q = t at *
          clear hm
          by_cases ho : t % 2 = 1
          · have ha : bits .and .u32 (t : Int) 1 = 1 := (u32_and_nat t 1 hr (by omega)).trans (by rw [Nat.and_one_is_mod, ho]; rfl)
            go_wp2
            go_round
            case rel => exact ⟨m + 1, by omega, by go_num, by rw [HT2.out, sh_odd t hr ho]⟩
            case measure => simp [intOf]; omega
          · have ha : bits .and .u32 (t : Int) 1 = 0 := (u32_and_nat t 1 hr (by omega)).trans (by rw [Nat.and_one_is_mod, show t % 2 = 0 by omega]; rfl)
            go_wp2
            go_round
            case rel => exact ⟨m + 1, by omega, by go_num, by rw [HT2.out, sh_even t ho]⟩
            case measure => simp [intOf]; omega
        · obtain rfl : m = 8 := by omega
          rw [← HN.out, ← HT.out]
          go_wp2
          go_round
          case rel => exact ⟨k + 1, by omega, by go_num, rfl⟩
          case measure => simp [intOf]; omega
    · obtain rfl : k = s.size := by omega
      have ht : s.data.toList.take s.size = s.data.toList := List.take_of_length_le (by simp)
      rw [ht]
      have hr := reg_lt s.data.toList HL.out
      generalize reg r0 s.data.toList = r at *
      have hx : bits .xor .u32 (r : Int) 4294967295 = ((r ^^^ ones : Nat) : Int) := u32_xor_nat r 4294967295 hr (by decide)
      have HX := Lib.hid hx
      clear hx
      go_wp2
      go_ret
      exact ⟨congrArg (fun x : Int => Ending.returned (.int .u32 x)) (HX.out.trans (by rw [HE.out])), rfl⟩

/-- the table of half bytes lies where it was laid -/
def Tab (w : World) : Prop := ∀ i, i < 16 → w.cell? ⟨1, i, none⟩ = some (.int .u32 ((tab.getD i 0 : Nat) : Int))
theorem Tab.upd {w w' : World} (h : Tab w) (hu : Upd noBlock w w') : Tab w' := fun i hi => by
  have h0 := h i hi
  have hlt := World.block_lt_of_cell? w _ h0
  exact (World.cell?_of_block (hu.block _ hlt (fun h => h))).trans h0
/-- a half byte's step -/
def half (r : Nat) : Nat := r / 16 ^^^ tab.getD (r % 16) 0
theorem half_eq (r : Nat) : half r = shs 4 r := by
  rw [nib, Nat.shiftRight_eq_div_pow]
  have h1 : r &&& 15 = r % 16 := Nat.and_two_pow_sub_one_eq_mod r 4
  rw [h1]; rfl
theorem half_lt {r : Nat} (h : r < 2 ^ 32) : half r < 2 ^ 32 := by rw [half_eq]; exact shs_lt 4 h
theorem half_half (r : Nat) (c : UInt8) : half (half (r ^^^ c.toNat)) = nxt r c := by
  rw [half_eq, half_eq, ← shs_add]
  unfold nxt; rfl
theorem tab_lt (i : Nat) (h : i < 16) : tab.getD i 0 < 2 ^ 32 := by
  have : ∀ i : Fin 16, tab.getD i.val 0 < 2 ^ 32 := by decide
  exact this ⟨i, h⟩
theorem half_bits (r : Nat) (h : r < 2 ^ 32) : bits .xor .u32 ((r : Int) / 16) ((tab.getD (r % 16) 0 : Nat) : Int) = ((half r : Nat) : Int) := by
  unfold half
  rw [← u32_xor_nat (r / 16) _ (by omega) (tab_lt _ (Nat.mod_lt _ (by omega))), Int.natCast_ediv]; rfl
attribute [local irreducible] half

theorem and15 (q : Nat) (h : q < 2 ^ 32) : bits .and .u32 (q : Int) 15 = ((q % 16 : Nat) : Int) :=
  (u32_and_nat q 15 h (by decide)).trans (congrArg Nat.cast (Nat.and_two_pow_sub_one_eq_mod q 4))
theorem not_u32 (c : Nat) (h : c < 2 ^ 32) : bits .xor .u32 IntKind.u32.max (c : Int) = ((c ^^^ ones : Nat) : Int) :=
  (u32_xor_nat 4294967295 c (by decide) h).trans (by rw [Nat.xor_comm]; rfl)
set_option maxRecDepth 20000 in
set_option maxHeartbeats 800000 in
theorem ext_any (c : Nat) (s : ByteArray) (w : World) (hc : c < 2 ^ 32) (hs : s.size ≤ maxLen) (hT : Tab w) :
    Calls Tryz.prog 118 #[.int .u32 (c : Int), .string s] w fun e w' => e = .returned (.int .u32 (ext c s.data.toList : Nat)) ∧ w = w' := by
  unfold maxLen at hs
  have hlt : c ^^^ ones < 2 ^ 32 := Nat.xor_lt_two_pow hc (by decide)
  have HE : Hid (ext c s.data.toList = reg (c ^^^ ones) s.data.toList ^^^ ones) := by unfold ext; rfl
  have HT := Lib.hid hT
  have HC := Lib.hid hc
  have hx0 := not_u32 c hc
  clear hT
  go_enter Tryz.func118, Tryz.ntmps118
  go_wp2
  generalize c ^^^ ones = r0 at *
  have HL := Lib.hid hlt
  clear hx0 hlt hc
  go_loop [5, 6, 11] (fun r _ i => ∃ k : Nat, k ≤ s.size ∧ i = .int .i64 (k : Int) ∧ r = .int .u32 (reg r0 (s.data.toList.take k) : Nat)) (fun _ _ i => s.size - (intOf i).toNat)
  case atStart => exact ⟨0, Nat.zero_le _, rfl, by rw [List.take_zero, reg_nil]⟩
  case round =>
    obtain ⟨k, hk, rfl, rfl⟩ := hrel
    by_cases h0 : k < s.size
    · have HT1 := Lib.hid (reg_take r0 s k h0)
      have hr := reg_lt (s.data.toList.take k) HL.out
      generalize reg r0 (s.data.toList.take k) = r at *
      have hc := u8_lt s[k]
      have hx : bits .xor .u32 (r : Int) ((s[k].toNat : Int) % 4294967296) = ((r ^^^ s[k].toNat : Nat) : Int) := by
        rw [Int.emod_eq_of_lt (by omega) (by omega)]; exact u32_xor_nat r _ hr (by omega)
      have hq : r ^^^ s[k].toNat < 2 ^ 32 := Nat.xor_lt_two_pow hr (by omega)
      have HN : Hid (nxt r s[k] = half (half (r ^^^ s[k].toNat))) := (half_half r s[k]).symm
      generalize hqq : r ^^^ s[k].toNat = q at *
      clear hqq
      have hh1 := half_bits q hq
      have hh2 := half_bits (half q) (half_lt hq)
      have hl2 := half_lt hq
      generalize hhh : half q = q2 at *
      clear hhh
      have c1 := HT.out (q % 16) (Nat.mod_lt _ (by omega))
      have c2 := HT.out (q2 % 16) (Nat.mod_lt _ (by omega))
      have a1 := and15 q hq
      have a2 := and15 q2 hl2
      have b1 : q % 16 < 16 := Nat.mod_lt _ (by omega)
      have b2 : q2 % 16 < 16 := Nat.mod_lt _ (by omega)
      clear hr hc
      generalize q % 16 = i1 at *
      generalize q2 % 16 = i2 at *
      generalize tab.getD i1 0 = z1 at *
      generalize tab.getD i2 0 = z2 at *
      go_wp2
      go_round
      case rel => exact ⟨k + 1, by omega, by go_num, by rw [HT1.out, HN.out]⟩
      case measure => simp [intOf]; omega
    · obtain rfl : k = s.size := by omega
      have ht : s.data.toList.take s.size = s.data.toList := List.take_of_length_le (by simp)
      rw [ht]
      have hr := reg_lt s.data.toList HL.out
      generalize reg r0 s.data.toList = r at *
      have hx := not_u32 r hr
      clear ht hr
      go_wp2
      go_ret
      exact ⟨congrArg (fun x : Nat => Ending.returned (.int .u32 (x : Int))) HE.out.symm, rfl⟩
end Go.Proofs.YtnppjfaecnikpaaGreatDoor
