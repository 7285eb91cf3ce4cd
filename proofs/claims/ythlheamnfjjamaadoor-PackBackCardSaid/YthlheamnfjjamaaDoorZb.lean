/- The plain model of unpacking; tokenBytes, repeat. -/
import Derived.Test.YthlheamnfjjamaaDoorZa
namespace Go.Proofs.YthlheamnfjjamaaDoor
open Go.RowKit

/-- the text with n more bytes, each the next one from a position on -/
def dup (t : List UInt8) (frm : Nat) : Nat → List UInt8
  | 0 => t
  | k + 1 => dup t frm k ++ [(dup t frm k).getD (frm + k) 0]
theorem dup_length (t : List UInt8) (frm : Nat) : ∀ n, (dup t frm n).length = t.length + n
  | 0 => rfl
  | n + 1 => by rw [dup, List.length_append, dup_length t frm n]; rfl
def intOfZ : Value → Int | .int _ q => q | _ => 0

set_option maxRecDepth 20000 in
theorem tokenBytes_any (c : Nat) (w : World) (hc : c < 256) :
    Calls Tryd.prog 71 #[.int .u8 (c : Int)] w fun e w' => e = .returned (.int .i64 ((if c < 128 then c + 2 else 3 : Nat) : Int)) ∧ w' = w := by
  by_cases h : c < 128
  · go_enter Tryd.func71, Tryd.ntmps71
    go_wp2
    go_ret
    exact ⟨rfl, rfl⟩
  · go_enter Tryd.func71, Tryd.ntmps71
    go_wp2
    go_ret
    exact ⟨rfl, rfl⟩
set_option maxRecDepth 20000 in
set_option maxHeartbeats 1600000 in
theorem repeat_any (B : Nat) (v : Value) (t : List UInt8) (frm n : Nat) (w : World) (hv : OwnB w B v t) (hB : B ≤ w.heap.size) (hf : frm < t.length) (hn : n ≤ 256) (ht : t.length ≤ 65536) :
    Calls Tryd.prog 72 #[v, .int .i64 (frm : Int), .int .i64 (n : Int)] w fun e w' => ∃ v', e = .returned v' ∧ OwnB w' B v' (dup t frm n) ∧ ∀ (a : World), a.heap.size ≤ B → Upd noBlock a w → Upd noBlock a w' := by
  obtain ⟨i0, hi0, hz0, hz1, hz2⟩ := info_parts byteInfoB
  obtain ⟨v0, hv0⟩ : ∃ v0, v = v0 := ⟨_, rfl⟩
  have HV := Lib.hid hv
  have HB := Lib.hid hB
  have HD : Hid (∀ k, (dup t frm k).length = t.length + k) := dup_length t frm
  subst hv0
  obtain ⟨a0, c0, hsl⟩ := hv.slice
  clear hv hB
  go_enter Tryd.func72, Tryd.ntmps72
  go_wp2
  go_loopw [0, 9] (fun x i wr => ∃ (k : Nat), k ≤ n ∧ i = .int .i64 (k : Int) ∧ Hid (OwnB wr B x (dup t frm k)) ∧ Hid (B ≤ wr.heap.size) ∧ Hid (∀ (a : World), a.heap.size ≤ B → Upd noBlock a w → Upd noBlock a wr)) (fun _ i _ => n - (intOfZ i).toNat)
  case atStart => exact ⟨0, Nat.zero_le _, rfl, HV, HB, fun _ _ h => h⟩
  case round =>
    obtain ⟨k, hk, rfl, HO, HS, HU⟩ := hrel
    by_cases h0 : k < n
    · have hl := HD.out k
      obtain ⟨g, cap, rfl, hgB, hg, hc⟩ := HO.out.cell (by omega)
      have hlt : frm + k < (dup t frm k).length := by omega
      have cc := hc (frm + k) hlt
      have hy : ∃ y : UInt8, (dup t frm k)[frm + k] = y ∧ Hid (dup t frm (k + 1) = dup t frm k ++ [y]) := ⟨_, rfl, by
        show _ = _
        rw [dup, List.getD_eq_getElem?_getD, List.getElem?_eq_getElem hlt]; rfl⟩
      obtain ⟨y, hy, HY⟩ := hy
      rw [hy] at cc
      have HSrc : ∀ W : World, Hid (Src Tryd.prog 1 59 (.slice (some ⟨W.heap.size, 0, none⟩) 1 1) 1 (bc [y]) (W.alloc (.cells #[.int .u8 (y.toNat : Int)] 5))) := fun W =>
        Src.ofSlice _ Tryd.underlying59 _ 1 1 _ rfl (cell_one_new W _ _) (bc_one _)
      have HOA : Hid ((wr.alloc (.cells #[.int .u8 (y.toNat : Int)] 5)).ownsRow B 5 1 (.slice (some ⟨g, 0, none⟩) (dup t frm k).length cap) (dup t frm k).length (bc (dup t frm k))) := HO.out.grow ((Upd.refl _ _).alloc _)
      have HSA : Hid (B ≤ (wr.alloc (.cells #[.int .u8 (y.toNat : Int)] 5)).heap.size) := by show B ≤ _; have := HS.out; rw [World.size_alloc]; omega
      have HM : Hid ((dup t frm k).length + 1 ≤ maxLen ∧ ((dup t frm k).length + 1) * 1 ≤ 140737488355328) := by show _ ∧ _; unfold maxLen; omega
      have HE : Hid (∀ v' W', W'.ownsRow B 5 1 v' ((dup t frm k).length + 1) (bc (dup t frm k) ++ bc [y]) → OwnB W' B v' (dup t frm (k + 1))) := fun v' W' h => by rw [HY.out]; exact OwnB.join rfl rfl h
      have HUA : Hid (∀ (row : Option Nat) (W' : World), (wr.alloc (.cells #[.int .u8 (y.toNat : Int)] 5)).grownBy W' row → (row = some g) → (B ≤ W'.heap.size ∧ ∀ (a : World), a.heap.size ≤ B → Upd noBlock a w → Upd noBlock a W')) := fun row W' hgr hrow => ⟨Nat.le_trans HSA.out hgr.size, fun a ha hu => upd_of_grown ((HU.out a ha hu).alloc _) hgr (fun k' hk' => .inr (by rw [hrow] at hk'; cases hk'; omega))⟩
      clear hc hy HY HU HO HS hgB
      rw [hl] at HOA HM HE
      rw [hl]
      clear hl hlt
      generalize dup t frm k = D at *
      go_wp2_with (first | (at_builtin; refine wpList_append_src _ rfl _ _ 59 59 rfl B 5 i0 (.int .u8 0) 1 Tryd.underlying59 hi0 hz0 hz1 hz2 rfl _ _ _ rfl HOA.out _ 1 _ rfl (HSrc wr).out (by omega) HM.out.1 HM.out.2 HSA.out ?_; intro v1 w1 hO hgr _) | go_in)
      obtain ⟨hs1, hu1⟩ := HUA.out _ _ hgr rfl
      have hO1 := HE.out _ _ hO
      go_roundw
      case rel => exact ⟨k + 1, by omega, by go_num, hO1, hs1, hu1⟩
      case measure => simp [intOfZ]; omega
    · obtain rfl : k = n := by omega
      go_wp2
      go_ret
      exact ⟨_, rfl, HO.out, HU.out⟩
end Go.Proofs.YthlheamnfjjamaaDoor
