/- The document's Plain, key, Piece. -/
import Derived.Test.YtcfilepilgjlaaaDoorEf
import Derived.Test.YtcfilepilgjlaaaDoorZg
import Derived.Test.YtcfilepilgjlaaaDoorKd
import Derived.Test.YtcfilepilgjlaaaDoorKh
namespace Go.Proofs.YtcfilepilgjlaaaDoor
open Go.RowKit

theorem unpack_pack64 (l : List UInt8) (most : Nat) (hl : l.length ≤ most) (hm : most ≤ 65536) : unpackL (packL l) (most : Int) = (l, 0) := by
  have hm : (min (max (most : Int) 0) 65536).toNat = most := by omega
  unfold packL
  split
  · simp only [unpackL]
    rw [if_pos trivial, hm, packT_unp l (by omega) _ hl]
  · simp only [unpackL]
    rw [if_neg (by decide), if_pos trivial, hm, if_neg (by omega)]
set_option maxRecDepth 20000 in
set_option maxHeartbeats 1600000 in
theorem Plain_any (t : List UInt8) (w : World) (ht : t.length ≤ 64) :
    Calls Tryd.prog 13 #[.string ⟨(packL t).toArray⟩] w fun e w' => e = .returned (.tuple #[.string ⟨t.toArray⟩, .bool true]) ∧ Upd noBlock w w' := by
  have HU := refUnpack_any (packL t) 64 w (by have := packL_len t; unfold maxLen; omega)
  rw [show (64 : Int) = ((64 : Nat) : Int) from rfl, unpack_pack64 t 64 ht (by decide)] at HU
  have H := Lib.hid HU
  obtain ⟨q, hq⟩ : ∃ q : ByteArray, ⟨(packL t).toArray⟩ = q := ⟨_, rfl⟩
  obtain ⟨q1, hq1⟩ : ∃ q : ByteArray, ⟨t.toArray⟩ = q := ⟨_, rfl⟩
  rw [hq, hq1] at H
  rw [hq, hq1]
  clear hq hq1 HU
  go_enter Tryd.func13, Tryd.ntmps13
  go_wp2_with (go_at_call 23; refine H.out.mono ?_; rintro e w1 ⟨rfl, h⟩; have HA := Lib.hid h; clear h)
  go_ret2
  exact ⟨rfl, HA.out⟩
/-- the text of a piece's key -/
def kT (nm p : Int) : List UInt8 := if goodK nm 3 [] p then encK nm 3 [] p else []
set_option maxRecDepth 20000 in
set_option maxHeartbeats 1600000 in
theorem refKey_any (nm p : Int) (w : World) :
    Calls Tryd.prog 25 #[.int .i64 nm, .int .i64 p] w fun e w' => e = .returned (.string ⟨(kT nm p).toArray⟩) ∧ Upd noBlock w w' := by
  have H := Lib.hid (refEncode_any nm 3 [] p w (by decide))
  have e : (if goodK nm 3 [] p then encK nm 3 [] p else []) = kT nm p := rfl
  rw [e] at H
  clear e
  go_enter Tryd.func25, Tryd.ntmps25
  go_wp2_with (go_at_call 31; refine H.out.mono ?_; rintro e w1 ⟨rfl, h⟩; have HA := Lib.hid h; clear h)
  go_ret
  exact ⟨rfl, HA.out⟩
/-- a piece's 64 bytes -/
def pcF (s : ByteArray) (j : Nat) : UInt8 := s.data.toList.getD j 0
def pstF (s : ByteArray) (k j : Nat) : UInt8 := if j < k then pcF s j else 0
theorem pcF_none (j : Nat) : pcF ⟨#[]⟩ j = 0 := rfl
theorem pcF_sp (Ss : List ByteArray) (p j : Nat) (hj : j < 64) : pcF (Ss.getD p ⟨#[]⟩) j = spF Ss (p * 64 + j) := by
  unfold pcF spF
  rw [show (p * 64 + j) / 64 = p by omega, show (p * 64 + j) % 64 = j by omega]
set_option maxRecDepth 100000 in
set_option maxHeartbeats 1600000 in
theorem Piece_any (a : Option Addr) (n0 c B i : Nat) (Ss : List ByteArray) (w : World) (hr : Strs w B a n0 Ss) (hB : B ≤ w.heap.size) (hi : i ≤ 1048576) :
    Calls Tryd.prog 18 #[.slice a n0 c, .int .i64 (i : Int)] w fun e w' => ∃ g, e = .returned (.slice (some ⟨g, 0, none⟩) 64 64) ∧ w.heap.size ≤ g ∧ R8 w' g 64 (pcF (Ss.getD i ⟨#[]⟩)) ∧ Upd noBlock w w' := by
  have hmk := make8 64 64 rfl (by decide)
  have B0 : Hid (R8 (w.alloc (.cells (madeCells #[.int .u8 0] 64) 5)) w.heap.size 64 (fun _ => 0)) := R8.made w 64
  have U0 : Hid (Upd noBlock w (w.alloc (.cells (madeCells #[.int .u8 0] 64) 5))) := (Upd.refl _ _).alloc _
  obtain ⟨W0, hW0⟩ : ∃ W0, W0 = w.alloc (.cells (madeCells #[.int .u8 0] 64) 5) := ⟨_, rfl⟩
  rw [← hW0] at B0 U0
  have HW0 := Lib.hid hW0
  have HBB := Lib.hid hB
  by_cases h0 : i < n0
  · obtain ⟨b, off, hab, hb, hc⟩ := hr.cell (by omega)
    subst hab
    have hsz := hr.at h0
    obtain ⟨s, hs⟩ : ∃ s, Ss.getD i ⟨#[]⟩ = s := ⟨_, rfl⟩
    rw [hs] at hsz ⊢
    have hsz' : s.size ≤ 9223372036854775807 := hsz
    have HC : Hid (∀ wr, Upd noBlock w wr → wr.cell? ⟨b, off + i, none⟩ = some (.string s)) := fun wr hu => by rw [← hs]; exact (World.cell?_of_block (hu.block b (by omega) (fun h => h))).trans (hc i h0)
    clear hs hc hr hW0 hsz
    go_enter Tryd.func18, Tryd.ntmps18
    go_wp2
    rw [← HW0.out]
    go_loopw [6] (fun x wr => ∃ k : Nat, k ≤ 64 ∧ k ≤ s.size ∧ x = .int .i64 (k : Int) ∧ Hid (R8 wr w.heap.size 64 (pstF s k)) ∧ Hid (Upd noBlock w wr)) (fun x _ => 64 - (intOf x).toNat)
    case atStart => exact ⟨0, Nat.zero_le _, Nat.zero_le _, rfl, B0.out.congr fun j _ => by unfold pstF; rw [if_neg (Nat.not_lt_zero j)], U0⟩
    case round =>
      clear B0 U0
      obtain ⟨k, hk1, hk2, rfl, HR, HU⟩ := hrel
      have c1 := HC.out _ HU.out
      by_cases h1 : k < 64 ∧ k < s.size
      · obtain ⟨h1, h2⟩ := h1
        have cc := HR.out.cell k h1
        have ff := HR.out.free k
        have hbk : pcF s k = s[k] := by
          unfold pcF
          rw [List.getD_eq_getElem?_getD, List.getElem?_eq_getElem (by exact h2)]; rfl
        have HR2 : Hid (R8 (wr.setCell ⟨w.heap.size, k, none⟩ (.int .u8 ((s[k].toNat : Nat) : Int))) w.heap.size 64 (pstF s (k + 1))) := (HR.out.set k s[k]).congr fun j _ => by
          unfold pstF
          by_cases e : j = k
          · subst e; rw [if_pos rfl, if_pos (by omega), hbk]
          · rw [if_neg e]
            by_cases e2 : j < k
            · rw [if_pos e2, if_pos (by omega)]
            · rw [if_neg e2, if_neg (by omega)]
        have HU2 : Hid (Upd noBlock w (wr.setCell ⟨w.heap.size, k, none⟩ (.int .u8 ((s[k].toNat : Nat) : Int)))) := HU.out.setCell (.inr (Nat.le_refl _)) _
        clear HR HU hbk
        go_wp2
        go_roundw
        case rel => exact ⟨k + 1, by omega, by omega, by go_num, HR2, HU2⟩
        case measure => simp [intOf] <;> omega
      · have HE : Hid (∀ j, j < 64 → pstF s k j = pcF s j) := fun j hj => by
          unfold pstF
          split
          · rfl
          · unfold pcF
            rw [List.getD_eq_getElem?_getD, List.getElem?_eq_none (by show s.size ≤ j; omega)]; rfl
        have HR2 := Lib.hid (HR.out.congr HE.out)
        by_cases e0 : k < 64
        · have e1 : ¬ k < s.size := fun e2 => h1 ⟨e0, e2⟩
          clear HR HE h1
          go_wp2
          go_ret
          exact ⟨_, rfl, Nat.le_refl _, HR2.out, HU.out⟩
        · clear HR HE h1
          go_wp2
          go_ret
          exact ⟨_, rfl, Nat.le_refl _, HR2.out, HU.out⟩
  · have e : Ss.getD i ⟨#[]⟩ = ⟨#[]⟩ := by rw [List.getD_eq_getElem?_getD, List.getElem?_eq_none (by rw [hr.len]; omega)]; rfl
    rw [e]
    clear hr hW0 e
    go_enter Tryd.func18, Tryd.ntmps18
    go_wp2
    rw [← HW0.out]
    go_ret
    exact ⟨_, rfl, Nat.le_refl _, B0.out, U0.out⟩
end Go.Proofs.YtcfilepilgjlaaaDoor
