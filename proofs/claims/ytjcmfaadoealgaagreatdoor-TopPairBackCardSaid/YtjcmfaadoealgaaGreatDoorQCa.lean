/- Walks over the document's own checksum and over package crc's. -/
import Derived.Test.YtjcmfaadoealgaaGreatDoorRows
import Derived.Test.YtjcmfaadoealgaaGreatDoorQLib
import Derived.Test.YtjcmfaadoealgaaGreatDoorQGCm
import Derived.WalkKit
import Derived.Lib.Hide
import Derived.WalkSpells
import Derived.WalkLawsBesides
import Derived.BigQuiet
import Derived.Deep.QuietTactic
import Derived.Deep.LoopGhost
namespace Go.Proofs.YtjcmfaadoealgaaGreatDoor
open Go.RowKit Cm
theorem reg_take (r : Nat) (s : ByteArray) (k : Nat) (h : k < s.size) : reg r (s.data.toList.take (k + 1)) = nxt (reg r (s.data.toList.take k)) s[k] := by
  have hk : k < s.data.toList.length := by simpa using h
  rw [List.take_succ_eq_append_getElem hk, reg_snoc]
  rfl

attribute [local irreducible] Cm.shs Cm.nxt Cm.reg Cm.ext

/-- the table of half bytes lies where it was laid -/
def Tab (w : World) : Prop := ∀ i, i < 16 → w.cell? ⟨1, i, none⟩ = some (.int .u32 ((tab.getD i 0 : Nat) : Int))
theorem Tab.upd {w w' : World} (h : Tab w) (hu : Upd noBlock w w') : Tab w' := fun i hi => by
  have h0 := h i hi
  have hlt := World.block_lt_of_cell? w _ h0
  exact (World.cell?_of_block (hu.block _ hlt (fun h => h))).trans h0
/-- a half byte's step -/
def half (r : Nat) : Nat := r / 16 ^^^ tab.getD (r % 16) 0
theorem half_eq (r : Nat) : half r = shs 4 r := by
  rw [nib, Nat.shiftRight_eq_div_pow]
  have h1 : r &&& 15 = r % 16 := Nat.and_two_pow_sub_one_eq_mod r 4
  rw [h1]; rfl
theorem half_lt {r : Nat} (h : r < 2 ^ 32) : half r < 2 ^ 32 := by rw [half_eq]; exact shs_lt 4 h
theorem half_half (r : Nat) (c : UInt8) : half (half (r ^^^ c.toNat)) = nxt r c := by
  rw [half_eq, half_eq, ← shs_add]
  unfold nxt; rfl
theorem tab_lt (i : Nat) (h : i < 16) : tab.getD i 0 < 2 ^ 32 := by
  have : ∀ i : Fin 16, tab.getD i.val 0 < 2 ^ 32 := by decide
  exact this ⟨i, h⟩
theorem half_bits (r : Nat) (h : r < 2 ^ 32) : bits .xor .u32 ((r : Int) / 16) ((tab.getD (r % 16) 0 : Nat) : Int) = ((half r : Nat) : Int) := by
  unfold half
  rw [← u32_xor_nat (r / 16) _ (by omega) (tab_lt _ (Nat.mod_lt _ (by omega))), Int.natCast_ediv]; rfl
attribute [local irreducible] half

theorem and15 (q : Nat) (h : q < 2 ^ 32) : bits .and .u32 (q : Int) 15 = ((q % 16 : Nat) : Int) :=
  (u32_and_nat q 15 h (by decide)).trans (congrArg Nat.cast (Nat.and_two_pow_sub_one_eq_mod q 4))
theorem not_u32 (c : Nat) (h : c < 2 ^ 32) : bits .xor .u32 IntKind.u32.max (c : Int) = ((c ^^^ ones : Nat) : Int) :=
  (u32_xor_nat 4294967295 c (by decide) h).trans (by rw [Nat.xor_comm]; rfl)
set_option maxRecDepth 20000 in
set_option maxHeartbeats 800000 in
theorem ext_any (c : Nat) (s : ByteArray) (w : World) (hc : c < 2 ^ 32) (hs : s.size ≤ maxLen) (hT : Tab w) :
    Calls Tryz.prog 170 #[.int .u32 (c : Int), .string s] w fun e w' => e = .returned (.int .u32 (ext c s.data.toList : Nat)) ∧ w = w' := by
  unfold maxLen at hs
  have hlt : c ^^^ ones < 2 ^ 32 := Nat.xor_lt_two_pow hc (by decide)
  have HE : Hid (ext c s.data.toList = reg (c ^^^ ones) s.data.toList ^^^ ones) := by unfold ext; rfl
  have HT := Lib.hid hT
  have HC := Lib.hid hc
  have hx0 := not_u32 c hc
  clear hT
  go_enter Tryz.func170, Tryz.ntmps170
  go_wp2
  generalize c ^^^ ones = r0 at *
  have HL := Lib.hid hlt
  clear hx0 hlt hc
  go_loop [5, 6, 11] (fun r _ i => ∃ k : Nat, k ≤ s.size ∧ i = .int .i64 (k : Int) ∧ r = .int .u32 (reg r0 (s.data.toList.take k) : Nat)) (fun _ _ i => s.size - (intOf i).toNat)
  case atStart => exact ⟨0, Nat.zero_le _, rfl, by rw [List.take_zero, reg_nil]⟩
  case round =>
    obtain ⟨k, hk, rfl, rfl⟩ := hrel
    by_cases h0 : k < s.size
    · have HT1 := Lib.hid (reg_take r0 s k h0)
      have hr := reg_lt (s.data.toList.take k) HL.out
      generalize reg r0 (s.data.toList.take k) = r at *
      have hc := u8_lt s[k]
      have hx : bits .xor .u32 (r : Int) ((s[k].toNat : Int) % 4294967296) = ((r ^^^ s[k].toNat : Nat) : Int) := by
        rw [Int.emod_eq_of_lt (by omega) (by omega)]; exact u32_xor_nat r _ hr (by omega)
      have hq : r ^^^ s[k].toNat < 2 ^ 32 := Nat.xor_lt_two_pow hr (by omega)
      have HN : Hid (nxt r s[k] = half (half (r ^^^ s[k].toNat))) := (half_half r s[k]).symm
      generalize hqq : r ^^^ s[k].toNat = q at *
      clear hqq
      have hh1 := half_bits q hq
      have hh2 := half_bits (half q) (half_lt hq)
      have hl2 := half_lt hq
      generalize hhh : half q = q2 at *
      clear hhh
      have c1 := HT.out (q % 16) (Nat.mod_lt _ (by omega))
      have c2 := HT.out (q2 % 16) (Nat.mod_lt _ (by omega))
      have a1 := and15 q hq
      have a2 := and15 q2 hl2
      have b1 : q % 16 < 16 := Nat.mod_lt _ (by omega)
      have b2 : q2 % 16 < 16 := Nat.mod_lt _ (by omega)
      clear hr hc
      generalize q % 16 = i1 at *
      generalize q2 % 16 = i2 at *
      generalize tab.getD i1 0 = z1 at *
      generalize tab.getD i2 0 = z2 at *
      go_wp2
      go_round
      case rel => exact ⟨k + 1, by omega, by go_num, by rw [HT1.out, HN.out]⟩
      case measure => simp [intOf]; omega
    · obtain rfl : k = s.size := by omega
      have ht : s.data.toList.take s.size = s.data.toList := List.take_of_length_le (by simp)
      rw [ht]
      have hr := reg_lt s.data.toList HL.out
      generalize reg r0 s.data.toList = r at *
      have hx := not_u32 r hr
      clear ht hr
      go_wp2
      go_ret
      exact ⟨congrArg (fun x : Nat => Ending.returned (.int .u32 (x : Int))) HE.out.symm, rfl⟩
end Go.Proofs.YtjcmfaadoealgaaGreatDoor
