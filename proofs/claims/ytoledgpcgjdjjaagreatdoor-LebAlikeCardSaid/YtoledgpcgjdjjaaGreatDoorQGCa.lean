import Derived.Test.YtoledgpcgjdjjaaGreatDoorRows
import Derived.Test.YtoledgpcgjdjjaaGreatDoorQLib
import Derived.Test.YtoledgpcgjdjjaaGreatDoorQGCm
import Derived.WalkKit
import Derived.Lib.Hide
import Derived.WalkSpells
import Derived.WalkLawsBesides
import Derived.BigQuiet
import Derived.Deep.QuietTactic
import Derived.Deep.LoopGhost
import Derived.LaidMore
import Derived.Lay
import Derived.Lib.LaidTab
import Derived.Stop.Joined
import Derived.Laws.ResultCell
import Derived.Laws.IdiomStrings
import Derived.Test.YtoledgpcgjdjjaaGreatDoorQGBy
/- Walks over the document's own checksum and over package crc's. -/
namespace Go.Proofs.YtoledgpcgjdjjaaGreatDoor
open Go.RowKit Cm
theorem reg_take (r : Nat) (s : ByteArray) (k : Nat) (h : k < s.size) : reg r (s.data.toList.take (k + 1)) = nxt (reg r (s.data.toList.take k)) s[k] := by
  have hk : k < s.data.toList.length := by simpa using h
  rw [List.take_succ_eq_append_getElem hk, reg_snoc]
  rfl

attribute [local irreducible] Cm.shs Cm.nxt Cm.reg Cm.ext

def Tab (w : World) : Prop := ∀ i, i < 16 → w.cell? ⟨1, i, none⟩ = some (.int .u32 ((tab.getD i 0 : Nat) : Int))
theorem Tab.upd {w w' : World} (h : Tab w) (hu : Upd noBlock w w') : Tab w' := fun i hi => by
  have h0 := h i hi
  have hlt := World.block_lt_of_cell? w _ h0
  exact (World.cell?_of_block (hu.block _ hlt (fun h => h))).trans h0
def half (r : Nat) : Nat := r / 16 ^^^ tab.getD (r % 16) 0
theorem half_eq (r : Nat) : half r = shs 4 r := by
  rw [nib, Nat.shiftRight_eq_div_pow]
  have h1 : r &&& 15 = r % 16 := Nat.and_two_pow_sub_one_eq_mod r 4
  rw [h1]; rfl
theorem half_lt {r : Nat} (h : r < 2 ^ 32) : half r < 2 ^ 32 := by rw [half_eq]; exact shs_lt 4 h
theorem half_half (r : Nat) (c : UInt8) : half (half (r ^^^ c.toNat)) = nxt r c := by
  rw [half_eq, half_eq, ← shs_add]
  unfold nxt; rfl
theorem tab_lt (i : Nat) (h : i < 16) : tab.getD i 0 < 2 ^ 32 := by
  have : ∀ i : Fin 16, tab.getD i.val 0 < 2 ^ 32 := by decide
  exact this ⟨i, h⟩
theorem half_bits (r : Nat) (h : r < 2 ^ 32) : bits .xor .u32 ((r : Int) / 16) ((tab.getD (r % 16) 0 : Nat) : Int) = ((half r : Nat) : Int) := by
  unfold half
  rw [← u32_xor_nat (r / 16) _ (by omega) (tab_lt _ (Nat.mod_lt _ (by omega))), Int.natCast_ediv]; rfl
attribute [local irreducible] half

theorem and15 (q : Nat) (h : q < 2 ^ 32) : bits .and .u32 (q : Int) 15 = ((q % 16 : Nat) : Int) :=
  (u32_and_nat q 15 h (by decide)).trans (congrArg Nat.cast (Nat.and_two_pow_sub_one_eq_mod q 4))
theorem not_u32 (c : Nat) (h : c < 2 ^ 32) : bits .xor .u32 IntKind.u32.max (c : Int) = ((c ^^^ ones : Nat) : Int) :=
  (u32_xor_nat 4294967295 c (by decide) h).trans (by rw [Nat.xor_comm]; rfl)
set_option maxRecDepth 20000 in
set_option maxHeartbeats 800000 in
theorem ext_any (c : Nat) (s : ByteArray) (w : World) (hc : c < 2 ^ 32) (hs : s.size ≤ maxLen) (hT : Tab w) :
    Calls Tryz.prog 213 #[.int .u32 (c : Int), .string s] w fun e w' => e = .returned (.int .u32 (ext c s.data.toList : Nat)) ∧ w = w' := by
  unfold maxLen at hs
  have hlt : c ^^^ ones < 2 ^ 32 := Nat.xor_lt_two_pow hc (by decide)
  have HE : Hid (ext c s.data.toList = reg (c ^^^ ones) s.data.toList ^^^ ones) := by unfold ext; rfl
  have HT := Lib.hid hT
  have HC := Lib.hid hc
  have hx0 := not_u32 c hc
  clear hT
  go_enter Tryz.func213, Tryz.ntmps213
  go_wp2
  generalize c ^^^ ones = r0 at *
  have HL := Lib.hid hlt
  clear hx0 hlt hc
  go_loop [5, 6, 11] (fun r _ i => ∃ k : Nat, k ≤ s.size ∧ i = .int .i64 (k : Int) ∧ r = .int .u32 (reg r0 (s.data.toList.take k) : Nat)) (fun _ _ i => s.size - (intOf i).toNat)
  case atStart => exact ⟨0, Nat.zero_le _, rfl, by rw [List.take_zero, reg_nil]⟩
  case round =>
    obtain ⟨k, hk, rfl, rfl⟩ := hrel
    by_cases h0 : k < s.size
    · have HT1 := Lib.hid (reg_take r0 s k h0)
      have hr := reg_lt (s.data.toList.take k) HL.out
      generalize reg r0 (s.data.toList.take k) = r at *
      have hc := u8_lt s[k]
      have hx : bits .xor .u32 (r : Int) ((s[k].toNat : Int) % 4294967296) = ((r ^^^ s[k].toNat : Nat) : Int) := by
        rw [Int.emod_eq_of_lt (by omega) (by omega)]; exact u32_xor_nat r _ hr (by omega)
      have hq : r ^^^ s[k].toNat < 2 ^ 32 := Nat.xor_lt_two_pow hr (by omega)
      have HN : Hid (nxt r s[k] = half (half (r ^^^ s[k].toNat))) := (half_half r s[k]).symm
      generalize hqq : r ^^^ s[k].toNat = q at *
      clear hqq
      have hh1 := half_bits q hq
      have hh2 := half_bits (half q) (half_lt hq)
      have hl2 := half_lt hq
      generalize hhh : half q = q2 at *
      clear hhh
      have c1 := HT.out (q % 16) (Nat.mod_lt _ (by omega))
      have c2 := HT.out (q2 % 16) (Nat.mod_lt _ (by omega))
      have a1 := and15 q hq
      have a2 := and15 q2 hl2
      have b1 : q % 16 < 16 := Nat.mod_lt _ (by omega)
      have b2 : q2 % 16 < 16 := Nat.mod_lt _ (by omega)
      clear hr hc
      generalize q % 16 = i1 at *
      generalize q2 % 16 = i2 at *
      generalize tab.getD i1 0 = z1 at *
      generalize tab.getD i2 0 = z2 at *
      go_wp2
      go_round
      case rel => exact ⟨k + 1, by omega, by go_num, by rw [HT1.out, HN.out]⟩
      case measure => simp [intOf]; omega
    · obtain rfl : k = s.size := by omega
      have ht : s.data.toList.take s.size = s.data.toList := List.take_of_length_le (by simp)
      rw [ht]
      have hr := reg_lt s.data.toList HL.out
      generalize reg r0 s.data.toList = r at *
      have hx := not_u32 r hr
      clear ht hr
      go_wp2
      go_ret
      exact ⟨congrArg (fun x : Nat => Ending.returned (.int .u32 (x : Int))) HE.out.symm, rfl⟩
end Go.Proofs.YtoledgpcgjdjjaaGreatDoor

/- Walks: the sums; what all laws of layer 3 begin with; CrcSums. -/
namespace Go.Proofs.YtoledgpcgjdjjaaGreatDoor
open Go.RowKit Cm
attribute [local irreducible] Cm.shs Cm.nxt Cm.reg Cm.ext

set_option maxRecDepth 20000 in
set_option maxHeartbeats 400000 in
theorem sum_any (s : ByteArray) (w : World) (hs : s.size ≤ maxLen) (hT : Tab w) :
    Calls Tryz.prog 174 #[.string s] w fun e w' => e = .returned (.int .u32 (ext 0 s.data.toList : Nat)) ∧ w = w' := by
  have H := ext_any 0 s w (by decide) hs hT
  go_enter Tryz.func174, Tryz.ntmps174
  go_wp2_with fail
  refine H.mono ?_
  rintro e w1 ⟨rfl, rfl⟩
  clear H hT
  go_wp2_with fail
  go_ret
  exact ⟨rfl, rfl⟩
end Go.Proofs.YtoledgpcgjdjjaaGreatDoor

/- Walks: the seal. -/
namespace Go.Proofs.YtoledgpcgjdjjaaGreatDoor
open Go.RowKit Cm
attribute [local irreducible] Cm.shs Cm.nxt Cm.reg Cm.ext

def b0 (c : Nat) : Int := (c : Int) % 256
def b1 (c : Nat) : Int := (c : Int) / 256 % 256
def b2 (c : Nat) : Int := (c : Int) / 65536 % 256
def b3 (c : Nat) : Int := (c : Int) / 16777216
theorem slb_cell (c : Nat) (hc : c < 2 ^ 32) (j : Nat) (hj : j < (slb c).length) :
    #[Value.int .u8 (b0 c), .int .u8 (b1 c), .int .u8 (b2 c), .int .u8 (b3 c)][j]? = some (.int .u8 ((slb c)[j].toNat : Int)) := by
  have h4 : j < 4 := hj
  have : j = 0 ∨ j = 1 ∨ j = 2 ∨ j = 3 := by omega
  rcases this with rfl | rfl | rfl | rfl
  · simp [slb, b0]
  · simp [slb, b1]
  · simp [slb, b2]
  · simp [slb, b3]; omega
theorem data_mk (s : ByteArray) (l : List UInt8) : s ++ ⟨l.toArray⟩ = ⟨(s.data.toList ++ l).toArray⟩ := by
  apply ByteArray.ext
  simp [ByteArray.data_append]

set_option maxRecDepth 20000 in
set_option maxHeartbeats 400000 in
theorem sealOf_any (s : ByteArray) (w : World) (hs : s.size ≤ maxLen) (hT : Tab w) :
    Calls Tryz.prog 126 #[.string s] w fun e w' => e = .returned (.agg #[.int .u8 (b0 (ext 0 s.data.toList)), .int .u8 (b1 (ext 0 s.data.toList)), .int .u8 (b2 (ext 0 s.data.toList)), .int .u8 (b3 (ext 0 s.data.toList))]) ∧ Upd noBlock w w' := by
  have HT : ∀ o, Hid (Tab (w.alloc o)) := fun o => hT.upd ((Upd.refl _ _).alloc o)
  have hr := ext0_lt s.data.toList
  have H := fun w hT => sum_any s w hs hT
  clear hT
  go_enter Tryz.func126, Tryz.ntmps126
  go_wp2_with fail
  refine (H _ (HT _).out).mono ?_
  rintro e w1 ⟨rfl, rfl⟩
  clear H
  generalize hq : ext 0 s.data.toList = c at *
  have HQ := Lib.hid hq
  clear hq
  go_wp2
  refine bodyPost_ret (v := .agg #[.int .u8 (b0 c), .int .u8 (b1 c), .int .u8 (b2 c), .int .u8 (b3 c)]) (by simp [results, Tryz.results126, go_sem, b0, b1, b2, b3]) rfl ⟨by rw [HQ.out], (Upd.refl _ _).alloc _⟩

set_option maxRecDepth 20000 in
set_option maxHeartbeats 400000 in
theorem seal_any (s : ByteArray) (w : World) (hs : s.size ≤ 281474976710656) (hT : Tab w) :
    Calls Tryz.prog 187 #[.string s] w fun e w' => e = .returned (.string ⟨(sealed s.data.toList).toArray⟩) ∧ Upd noBlock w w' := by
  have H := sealOf_any s w (by unfold maxLen; omega) hT
  have hr := Lib.hid (ext0_lt s.data.toList)
  have HE : Hid (sealed s.data.toList = s.data.toList ++ slb (ext 0 s.data.toList)) := rfl
  generalize ext 0 s.data.toList = c at *
  have hcell := slb_cell c hr.out
  generalize b0 c = x0 at *
  generalize b1 c = x1 at *
  generalize b2 c = x2 at *
  generalize b3 c = x3 at *
  have HC := Lib.hid hcell
  clear hT hcell
  have hcv : ∀ (w1 : World), (convert 105 9 (.slice (some ⟨w1.heap.size, 0, none⟩) 4 4)).run Tryz.prog (w1.alloc (.cells #[.int .u8 x0, .int .u8 x1, .int .u8 x2, .int .u8 x3] 224)) = .ok (.string ⟨(slb c).toArray⟩) (w1.alloc (.cells #[.int .u8 x0, .int .u8 x1, .int .u8 x2, .int .u8 x3] 224)) := fun w1 =>
    run_convert_bytes_back _ 105 9 5 ⟨w1.heap.size, 0, none⟩ 4 (slb c) Tryz.underlying105 Tryz.underlying5 Tryz.underlying9 (fun j hj => by
      have e : (⟨w1.heap.size, 0, none⟩ : Addr).add j = ⟨w1.heap.size, j, none⟩ := by
        by_cases h0 : j = 0
        · subst h0; simp [Addr.add]
        · simp [Addr.add, h0]
      rw [e, cell_of (heap_alloc_new w1 _)]
      exact HC.out j hj)
  have hsz : (ByteArray.mk (slb c).toArray).size = 4 := rfl
  have hsum : ¬ 9223372036854775807 < s.size + 4 := by omega
  go_enter Tryz.func187, Tryz.ntmps187
  go_wp2_with fail
  refine H.mono ?_
  rintro e w1 ⟨rfl, hu⟩
  have HU := Lib.hid hu
  clear H hu
  go_wp2
  go_ret
  exact ⟨by rw [HE.out]; exact congrArg (fun x => Ending.returned (.string x)) (data_mk s _), HU.out.alloc _⟩
end Go.Proofs.YtoledgpcgjdjjaaGreatDoor

/- Walks: the document's seal. -/
namespace Go.Proofs.YtoledgpcgjdjjaaGreatDoor
open Go.RowKit Cm
attribute [local irreducible] Cm.shs Cm.nxt Cm.reg Cm.ext

end Go.Proofs.YtoledgpcgjdjjaaGreatDoor

/- From a row's condition that lists three tables to the table of half bytes. -/
namespace Go.Proofs.YtoledgpcgjdjjaaGreatDoor
open Go.RowKit Cm

theorem laidMet_second {P : Program} {W : World} {x : String × DataW Unit} {name : String} {k : IntKind} {zs : List Int} {rest : List (String × DataW Unit)} {g : Nat} {t e : TypeId} {n : Nat}
    (hg : P.globalNamed name = some g) (hty : (P.globals[g]?).map (·.type) = some t) (ht : P.underlying t = some (.array n e)) (he : P.underlying e = some (.int k)) (hce : P.cellsOf e = 1) (hct : P.cellsOf t = n)
    (h : laidMet P (x :: (name, Lib.tabData k zs) :: rest) W) : Lib.TabIs P W name k zs := by
  obtain ⟨ps, ⟨_, _, _, _, _, _, _, _, _, _, ⟨g', t', cs, fuel, p, q, hg', ht', hvar, hd, _, _⟩, _⟩, _⟩ := h
  obtain rfl := Option.some.inj (hg.symm.trans hg')
  obtain rfl := Option.some.inj (hty.symm.trans ht')
  unfold Lib.TabIs
  rw [hvar, ← Lib.cells_of_tab ht he hce hct hd]
theorem of_laid3 {W : World} (h : laidMetH Tryz.prog [("unicode/utf8.acceptRanges", Rows.laid_unicode_utf8_acceptRanges), ("chert/crc.halves", Rows.laid_chert_crc_halves), ("unicode/utf8.first", Rows.laid_unicode_utf8_first)] W) : Tab W := by
  rw [MakeChecks.laidMetH_plain _ _ _ (by kernel_rfl)] at h
  have hT := laidMet_second (P := Tryz.prog) (W := W) (name := "chert/crc.halves") (k := .u32) (zs := tab.map fun n : Nat => (n : Int)) (g := 1) (t := 314) (e := 159) (n := 16)
    (by kernel_rfl) (by kernel_rfl) Tryz.underlying314 Tryz.underlying159 (by kernel_rfl) (by kernel_rfl) h
  intro i hi
  have := hT.cell (g := 1) (by kernel_rfl) i (by simpa [tab] using hi)
  rw [this]
  have e : (tab.map fun n : Nat => (n : Int)).getD i 0 = ((tab.getD i 0 : Nat) : Int) := by
    rw [List.getD_eq_getElem?_getD, List.getD_eq_getElem?_getD, List.getElem?_map]
    cases tab[i]? <;> rfl
  rw [e]
end Go.Proofs.YtoledgpcgjdjjaaGreatDoor
