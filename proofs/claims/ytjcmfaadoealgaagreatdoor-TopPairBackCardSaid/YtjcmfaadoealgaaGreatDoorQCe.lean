/- Walks: the seal. -/
import Derived.Test.YtjcmfaadoealgaaGreatDoorQGCd
import Derived.Laws.ResultCell
import Derived.Laws.IdiomStrings
namespace Go.Proofs.YtjcmfaadoealgaaGreatDoor
open Go.RowKit Cm
attribute [local irreducible] Cm.shs Cm.nxt Cm.reg Cm.ext

/-- the four bytes as a walk spells them -/
def b0 (c : Nat) : Int := (c : Int) % 256
def b1 (c : Nat) : Int := (c : Int) / 256 % 256
def b2 (c : Nat) : Int := (c : Int) / 65536 % 256
def b3 (c : Nat) : Int := (c : Int) / 16777216
theorem slb_cell (c : Nat) (hc : c < 2 ^ 32) (j : Nat) (hj : j < (slb c).length) :
    #[Value.int .u8 (b0 c), .int .u8 (b1 c), .int .u8 (b2 c), .int .u8 (b3 c)][j]? = some (.int .u8 ((slb c)[j].toNat : Int)) := by
  have h4 : j < 4 := hj
  have : j = 0 ∨ j = 1 ∨ j = 2 ∨ j = 3 := by omega
  rcases this with rfl | rfl | rfl | rfl
  · simp [slb, b0]
  · simp [slb, b1]
  · simp [slb, b2]
  · simp [slb, b3]; omega
theorem data_mk (s : ByteArray) (l : List UInt8) : s ++ ⟨l.toArray⟩ = ⟨(s.data.toList ++ l).toArray⟩ := by
  apply ByteArray.ext
  simp [ByteArray.data_append]

set_option maxRecDepth 20000 in
set_option maxHeartbeats 400000 in
theorem sealOf_any (s : ByteArray) (w : World) (hs : s.size ≤ maxLen) (hT : Tab w) :
    Calls Tryz.prog 97 #[.string s] w fun e w' => e = .returned (.agg #[.int .u8 (b0 (ext 0 s.data.toList)), .int .u8 (b1 (ext 0 s.data.toList)), .int .u8 (b2 (ext 0 s.data.toList)), .int .u8 (b3 (ext 0 s.data.toList))]) ∧ Upd noBlock w w' := by
  have HT : ∀ o, Hid (Tab (w.alloc o)) := fun o => hT.upd ((Upd.refl _ _).alloc o)
  have hr := ext0_lt s.data.toList
  have H := fun w hT => sum_any s w hs hT
  clear hT
  go_enter Tryz.func97, Tryz.ntmps97
  go_wp2_with fail
  refine (H _ (HT _).out).mono ?_
  rintro e w1 ⟨rfl, rfl⟩
  clear H
  generalize hq : ext 0 s.data.toList = c at *
  have HQ := Lib.hid hq
  clear hq
  go_wp2
  refine bodyPost_ret (v := .agg #[.int .u8 (b0 c), .int .u8 (b1 c), .int .u8 (b2 c), .int .u8 (b3 c)]) (by simp [results, Tryz.results97, go_sem, b0, b1, b2, b3]) rfl ⟨by rw [HQ.out], (Upd.refl _ _).alloc _⟩

set_option maxRecDepth 20000 in
set_option maxHeartbeats 400000 in
theorem seal_any (s : ByteArray) (w : World) (hs : s.size ≤ 281474976710656) (hT : Tab w) :
    Calls Tryz.prog 92 #[.string s] w fun e w' => e = .returned (.string ⟨(sealed s.data.toList).toArray⟩) ∧ Upd noBlock w w' := by
  have H := sealOf_any s w (by unfold maxLen; omega) hT
  have hr := Lib.hid (ext0_lt s.data.toList)
  have HE : Hid (sealed s.data.toList = s.data.toList ++ slb (ext 0 s.data.toList)) := rfl
  generalize ext 0 s.data.toList = c at *
  have hcell := slb_cell c hr.out
  generalize b0 c = x0 at *
  generalize b1 c = x1 at *
  generalize b2 c = x2 at *
  generalize b3 c = x3 at *
  have HC := Lib.hid hcell
  clear hT hcell
  have hcv : ∀ (w1 : World), (convert 43 9 (.slice (some ⟨w1.heap.size, 0, none⟩) 4 4)).run Tryz.prog (w1.alloc (.cells #[.int .u8 x0, .int .u8 x1, .int .u8 x2, .int .u8 x3] 198)) = .ok (.string ⟨(slb c).toArray⟩) (w1.alloc (.cells #[.int .u8 x0, .int .u8 x1, .int .u8 x2, .int .u8 x3] 198)) := fun w1 =>
    run_convert_bytes_back _ 43 9 5 ⟨w1.heap.size, 0, none⟩ 4 (slb c) Tryz.underlying43 Tryz.underlying5 Tryz.underlying9 (fun j hj => by
      have e : (⟨w1.heap.size, 0, none⟩ : Addr).add j = ⟨w1.heap.size, j, none⟩ := by
        by_cases h0 : j = 0
        · subst h0; simp [Addr.add]
        · simp [Addr.add, h0]
      rw [e, cell_of (heap_alloc_new w1 _)]
      exact HC.out j hj)
  have hsz : (ByteArray.mk (slb c).toArray).size = 4 := rfl
  have hsum : ¬ 9223372036854775807 < s.size + 4 := by omega
  go_enter Tryz.func92, Tryz.ntmps92
  go_wp2_with fail
  refine H.mono ?_
  rintro e w1 ⟨rfl, hu⟩
  have HU := Lib.hid hu
  clear H hu
  go_wp2
  go_ret
  exact ⟨by rw [HE.out]; exact congrArg (fun x => Ending.returned (.string x)) (data_mk s _), HU.out.alloc _⟩
end Go.Proofs.YtjcmfaadoealgaaGreatDoor
