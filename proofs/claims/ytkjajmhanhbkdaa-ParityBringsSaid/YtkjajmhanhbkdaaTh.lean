/- The parity of payloads. -/
import Derived.Test.YtkjajmhanhbkdaaTd
import Derived.Test.YtkjajmhanhbkdaaSt
import Derived.Test.YtkjajmhanhbkdaaBr
namespace Go.Proofs.Ytkjajmhanhbkdaa
open Go.RowKit

/-- the byte at i of the parity -/
def xb (Ss : List ByteArray) (i : Nat) : UInt8 := Ss.foldl (fun b s => b ^^^ s.data.toList.getD i 0) 0
theorem xb_snoc (Ss : List ByteArray) (s : ByteArray) (i : Nat) : xb (Ss ++ [s]) i = xb Ss i ^^^ s.data.toList.getD i 0 := by
  unfold xb; rw [List.foldl_append]; rfl
/-- how many bytes -/
def xsz (x : Int) : Nat := (min (max x 0) 2048).toNat
def xorL (x : Int) (Ss : List ByteArray) : List UInt8 := (List.range (xsz x)).map (xb Ss)
theorem xsz_le (x : Int) : xsz x ≤ 2048 := by unfold xsz; omega
theorem u8_xor_u8 (a b : UInt8) : bits .xor .u8 ((a.toNat : Nat) : Int) ((b.toNat : Nat) : Int) = (((a ^^^ b).toNat : Nat) : Int) := by
  rw [u8_xor_nat _ _ a.toNat_lt b.toNat_lt]
  rfl
theorem byteInfo7 : (Try.prog.info? 5).map (fun i => (i.zero, i.size, i.bytes)) = some (some (.int .u8 0), 1, 1) := by kernel_rfl
theorem xor_make (m : Nat) (V : Int) (hV : V = (m : Int)) (hm : m ≤ 2048) : ∀ w : World, (Instr.makeSlice 58 (.int .i64 V) (.int .i64 V)).run Try.prog w = .ok (.slice (some ⟨w.heap.size, 0, none⟩) m m) (w.alloc (.cells (madeCells #[.int .u8 0] m) 5)) := by
  subst hV
  exact run_make_row' (P := Try.prog) 58 5 (.int .u8 0) 1 Try.underlying58 byteInfo7 rfl .i64 .i64 m (by omega) (by omega)
theorem getD_byte (s : ByteArray) (k : Nat) (h : k < s.size) : s.data.toList.getD k 0 = s[k] := by
  have e : s.data.toList.length = s.size := rfl
  rw [List.getD_eq_getElem?_getD, List.getElem?_eq_getElem (by omega)]
  rfl
theorem getD_none (s : ByteArray) (k : Nat) (h : s.size ≤ k) : s.data.toList.getD k 0 = 0 := by
  have e : s.data.toList.length = s.size := rfl
  rw [List.getD_eq_getElem?_getD, List.getElem?_eq_none (by omega)]
  rfl
/-- the state in the round of payload s, behind j bytes -/
def xst (Ss : List ByteArray) (s : ByteArray) (j i : Nat) : Nat := if i < j then (xb (Ss ++ [s]) i).toNat else (xb Ss i).toNat
theorem xst_zero (Ss : List ByteArray) (s : ByteArray) (i : Nat) : xst Ss s 0 i = (xb Ss i).toNat := if_neg (Nat.not_lt_zero i)
theorem xst_step (Ss : List ByteArray) (s : ByteArray) (j i : Nat) : xst Ss s (j + 1) i = if i = j then (xb (Ss ++ [s]) j).toNat else xst Ss s j i := by
  unfold xst
  by_cases e : i = j
  · subst e; rw [if_pos rfl, if_pos (by omega)]
  · rw [if_neg e]
    by_cases h : i < j
    · rw [if_pos h, if_pos (by omega)]
    · rw [if_neg h, if_neg (by omega)]
theorem xst_done (Ss : List ByteArray) (s : ByteArray) (j m : Nat) (h : j = min s.size m) (i : Nat) (hi : i < m) : xst Ss s j i = (xb (Ss ++ [s]) i).toNat := by
  unfold xst
  by_cases e : i < j
  · rw [if_pos e]
  · rw [if_neg e, xb_snoc, getD_none s i (by omega)]
    simp
theorem takeS_snoc (l : List ByteArray) (k : Nat) (h : k < l.length) : l.take (k + 1) = l.take k ++ [l.getD k ⟨#[]⟩] := by
  rw [List.getD_eq_getElem?_getD, List.getElem?_eq_getElem h]
  simp
set_option maxRecDepth 100000 in
set_option maxHeartbeats 3200000 in
theorem xor_any (x : Int) (a : Option Addr) (n c B : Nat) (Ss : List ByteArray) (w : World) (hr : Strs w B a n Ss) (hB : B ≤ w.heap.size) (hn : n ≤ 8796093022208) :
    Calls Try.prog 16 #[.int .i64 x, .slice a n c] w fun e w' => e = .returned (.string ⟨(xorL x Ss).toArray⟩) ∧ Upd noBlock w w' := by
  have HS := Lib.hid hr
  have HBB := Lib.hid hB
  obtain ⟨m, hm⟩ : ∃ m, xsz x = m := ⟨_, rfl⟩
  have hmle : m ≤ 2048 := by rw [← hm]; exact xsz_le x
  have HX : Hid (xorL x Ss = (List.range m).map (xb Ss)) := by show _ = _; unfold xorL; rw [hm]
  have hcase : (x < 0 ∧ m = 0) ∨ (0 ≤ x ∧ x ≤ 2048 ∧ x = (m : Int)) ∨ (0 ≤ x ∧ 2048 < x ∧ m = 2048) := by unfold xsz at hm; omega
  have U0 : ∀ w : World, Hid (Upd noBlock w (w.alloc (.cells (madeCells #[.int .u8 0] m) 5))) := fun w => (Upd.refl _ _).alloc _
  have B0 : ∀ w : World, Hid (ByteRow (w.alloc (.cells (madeCells #[.int .u8 0] m) 5)) w.heap.size m 5 (fun i => (xb (Ss.take 0) i).toNat)) := fun w => by
    obtain ⟨c, h1, h2, h3⟩ := World.rowIs_made w (.int .u8 0) m 5
    exact ⟨c, _, h1, .inl rfl, by omega, fun j hj => h3 j hj⟩
  obtain ⟨W0, hW0⟩ : ∃ W0, W0 = w.alloc (.cells (madeCells #[.int .u8 0] m) 5) := ⟨_, rfl⟩
  have b0 := B0 w
  have u0 := U0 w
  rw [← hW0] at b0 u0
  have HW0 := Lib.hid hW0
  clear hr hB hm B0 U0 hW0
  have key : ∃ V : Int, ((x < 0 ∧ V = 0) ∨ (0 ≤ x ∧ x ≤ 2048 ∧ V = x) ∨ (0 ≤ x ∧ 2048 < x ∧ V = 2048)) ∧ ∀ w : World, (Instr.makeSlice 58 (.int .i64 V) (.int .i64 V)).run Try.prog w = .ok (.slice (some ⟨w.heap.size, 0, none⟩) m m) (w.alloc (.cells (madeCells #[.int .u8 0] m) 5)) := by
    rcases hcase with ⟨h1, h2⟩ | ⟨h1, h2, h3⟩ | ⟨h1, h2, h3⟩
    · exact ⟨0, .inl ⟨h1, rfl⟩, xor_make m 0 (by omega) hmle⟩
    · exact ⟨x, .inr (.inl ⟨h1, h2, rfl⟩), xor_make m x (by omega) hmle⟩
    · exact ⟨2048, .inr (.inr ⟨h1, h2, rfl⟩), xor_make m 2048 (by omega) hmle⟩
  clear hcase
  obtain ⟨V, hV, hmk⟩ := key
  rcases hV with ⟨hx, rfl⟩ | ⟨hx, hx2, rfl⟩ | ⟨hx, hx2, rfl⟩
  all_goals
    go_enter Try.func16, Try.ntmps16
    go_wp2
    clear hmk
    rw [← HW0.out]
    go_loopw [15] (fun i wr => ∃ k : Nat, k ≤ n ∧ i = .int .i64 (k : Int) ∧ Hid (ByteRow wr w.heap.size m 5 (fun i => (xb (Ss.take k) i).toNat)) ∧ Hid (Upd noBlock w wr)) (fun i _ => n - (intOf i).toNat)
    case atStart => exact ⟨0, Nat.zero_le _, rfl, b0, u0⟩
    case round =>
      clear b0 u0
      obtain ⟨k, hk, rfl, HR, HU⟩ := hrel
      by_cases h0 : k < n
      · obtain ⟨b, off, hab, hb, hc⟩ := HS.out.cell (by omega)
        subst hab
        have hsz := HS.out.at h0
        have HT := Lib.hid (takeS_snoc Ss k (by rw [HS.out.len]; exact h0))
        obtain ⟨s, hs⟩ : ∃ s, Ss.getD k ⟨#[]⟩ = s := ⟨_, rfl⟩
        have c1 : wr.cell? ⟨b, off + k, none⟩ = some (.string s) := by rw [← hs]; exact (World.cell?_of_block (HU.out.block b (by have := HBB.out; omega) (fun h => h))).trans (hc k h0)
        rw [hs] at hsz HT
        have hsz' : s.size ≤ 9223372036854775807 := hsz
        obtain ⟨T, hT⟩ : ∃ T, Ss.take k = T := ⟨_, rfl⟩
        rw [hT] at HR HT
        have HR0 : Hid (ByteRow wr w.heap.size m 5 (xst T s 0)) := HR.out.congr fun i _ => (xst_zero T s i).symm
        clear hc hs hsz HR hT
        obtain ⟨wo, rfl⟩ : ∃ wo : World, wo = wr := ⟨_, rfl⟩
        rcases Nat.lt_or_ge m s.size with hle | hle
        all_goals
          go_wp2
          go_loopw [24] (fun i wr => ∃ j : Nat, j ≤ s.size ∧ j ≤ m ∧ i = .int .i64 (j : Int) ∧ Hid (ByteRow wr w.heap.size m 5 (xst T s j)) ∧ Hid (Upd noBlock w wr)) (fun i _ => m - (intOf i).toNat)
          case atStart => exact ⟨0, Nat.zero_le _, Nat.zero_le _, rfl, HR0, HU⟩
          case round =>
            clear HR0 HU c1
            obtain ⟨j, hj1, hj2, rfl, HR, HU⟩ := hrel
            by_cases j0 : j < s.size ∧ j < m
            · obtain ⟨j1, j2⟩ := j0
              have cc := HR.out.cell j j2
              have ff := HR.out.free j j2
              rw [show xst T s j j = (xb T j).toNat from if_neg (Nat.lt_irrefl j)] at cc
              have hx8 : bits .xor .u8 (((xb T j).toNat : Nat) : Int) ((s[j].toNat : Nat) : Int) = (((xb (T ++ [s]) j).toNat : Nat) : Int) := by
                rw [u8_xor_u8, xb_snoc, getD_byte s j j1]
              have HR2 : Hid (ByteRow (wr.setCell ⟨w.heap.size, j, none⟩ (.int .u8 (((xb (T ++ [s]) j).toNat : Nat) : Int))) w.heap.size m 5 (xst T s (j + 1))) := (HR.out.set j _).congr fun i _ => (xst_step T s j i).symm
              have HU2 : Hid (Upd noBlock w (wr.setCell ⟨w.heap.size, j, none⟩ (.int .u8 (((xb (T ++ [s]) j).toNat : Nat) : Int)))) := HU.out.setCell (.inr (Nat.le_refl _)) _
              clear HR HU
              generalize (xb (T ++ [s]) j).toNat = z at *
              generalize (xb T j).toNat = z0 at *
              go_wp2
              go_region
              go_wp2
              go_roundw
              case rel => exact ⟨j + 1, by omega, by omega, by go_num, HR2.out.grow (Upd.refl _ _).drew, HU2.out.drew⟩
              case measure => simp [intOf]; omega
            · have HJ : Hid (j = min s.size m) := by show _ = _; omega
              have hjx : ¬ (j < s.size) ∨ ¬ (j < m) := by omega
              have HR2 : Hid (ByteRow wr w.heap.size m 5 (fun i => (xb (Ss.take (k + 1)) i).toNat)) := HR.out.congr fun i hi => by rw [HT.out]; exact xst_done T s j m HJ.out i hi
              have hjs : decide (j < s.size) = false ∨ decide (j < m) = false := by
                rcases hjx with h | h
                · exact .inl (decide_eq_false h)
                · exact .inr (decide_eq_false h)
              clear hjx
              go_wp2
              go_roundw
              case rel => exact ⟨k + 1, by omega, by go_num, HR2, HU⟩
              case measure => simp [intOf]; omega
      · obtain rfl : k = n := by omega
        have e : Ss.take k = Ss := List.take_of_length_le (by rw [HS.out.len]; omega)
        rw [e] at HR
        have hcv := HR.out.text (P := Try.prog) ((List.range m).map (xb Ss)) (by simp) (fun j h => by simp) m 58 9 Try.underlying58 Try.underlying5 Try.underlying9
        clear e
        go_wp2
        go_ret
        exact ⟨by rw [HX.out]; rfl, HU.out⟩
end Go.Proofs.Ytkjajmhanhbkdaa
