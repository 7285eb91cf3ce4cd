import Derived.Test.YtoledgpcgjdjjaaGreatDoorQIa
import Derived.Test.YtoledgpcgjdjjaaGreatDoorQIb
import Derived.Deep.OwnRows
import Derived.Lib.ConvBytes
/- A remainder's first bytes as a text. -/
namespace Go.Proofs.YtoledgpcgjdjjaaGreatDoor
open Go.RowKit

def shs (r : Rm) : Nat → Rm | 0 => r | j + 1 => (shs r j).sh8
theorem shs_ok {r : Rm} (h : r.Ok) (j : Nat) : (shs r j).Ok := by
  induction j with
  | zero => exact h
  | succ j ih => exact ih.sh8
def textL (r : Rm) (n : Nat) : List UInt8 := (List.range n).map fun i => UInt8.ofNat (shs r i).first
theorem textL_length (r : Rm) (n : Nat) : (textL r n).length = n := by simp [textL]
def tRow (r : Rm) (k : Nat) (i : Nat) : Value := .int .u8 (((if i < k then (shs r i).first else 0) : Nat) : Int)
theorem textL_get {r : Rm} (h : r.Ok) (n j : Nat) (hj : j < (textL r n).length) : tRow r n j = .int .u8 (((textL r n)[j]).toNat : Int) := by
  have hn : j < n := by rw [textL_length] at hj; exact hj
  have hf := (shs_ok h j).first
  unfold tRow
  rw [if_pos hn]
  have e : ((textL r n)[j]).toNat = (shs r j).first := by
    simp only [textL, List.getElem_map, List.getElem_range]
    rw [UInt8.toNat_ofNat']
    exact Nat.mod_eq_of_lt hf
  rw [e]
theorem tbyteCells : (Tryz.prog.info? 5).map (fun i => (i.zero, i.size, i.bytes)) = some (some (.int .u8 0), 1, 1) := by kernel_rfl
attribute [local irreducible] shs textL

set_option maxRecDepth 100000 in
set_option maxHeartbeats 1600000 in
theorem text_any (r : Rm) (n : Nat) (w : World) (hr : r.Ok) (hn : n ≤ 1000) :
    Calls Tryz.prog 171 #[r.agg, .int .i64 (n : Int)] w fun e w' => e = .returned (.string ⟨(textL r n).toArray⟩) ∧ Upd noBlock w w' := by
  have hmk : ∀ w : World, (Instr.makeSlice 105 (.int .i64 (n : Int)) (.int .i64 (n : Int))).run Tryz.prog w = .ok (.slice (some ⟨w.heap.size, 0, none⟩) n n) (w.alloc (.cells (madeCells #[.int .u8 0] n) 5)) :=
    run_make_row' (P := Tryz.prog) 105 5 (.int .u8 0) 1 Tryz.underlying105 tbyteCells rfl .i64 .i64 n (by omega) (by omega)
  obtain ⟨O, HO⟩ : ∃ O : Obj, Hid (O = .cells (madeCells #[.int .u8 0] n) 5) := ⟨_, rfl⟩
  rw [← HO.out] at hmk
  have HOK := Lib.hid (fun j => shs_ok hr j)
  have HGET := Lib.hid (fun j (hj : j < (textL r n).length) => textL_get hr n j hj)
  have HLEN := Lib.hid (textL_length r n)
  generalize hd : textL r n = d at *
  have HS0 : Hid (shs r 0 = r) := by show _ = _; unfold shs; rfl
  have HSS : Hid (∀ j, shs r (j + 1) = (shs r j).sh8) := fun j => by conv => lhs; unfold shs
  clear hd hr
  unfold Rm.agg
  go_enter Tryz.func171, Tryz.ntmps171
  go_wp2_with fail
  clear hmk
  obtain ⟨wa, hwa⟩ : ∃ wa, wa = (w.alloc (.cells #[.int .u64 (r.h : Int), .int .u64 (r.l : Int)] 174)).alloc O := ⟨_, rfl⟩
  have U0 : Hid (Upd noBlock w wa) := by rw [hwa]; exact ((Upd.refl _ _).alloc _).alloc _
  have T0 : Hid (RB wa w.heap.size (shs r 0)) := by rw [hwa, HS0.out]; exact block_alloc (heap_alloc_new w _) _
  have B0 : Hid (wa.rowIs (w.heap.size + 1) 5 n (tRow r 0)) := by
    rw [hwa, HO.out]
    have h := World.rowIs_made (w.alloc (.cells #[.int .u64 (r.h : Int), .int .u64 (r.l : Int)] 174)) (.int .u8 0) n 5
    rw [World.size_alloc] at h
    exact h.congr (fun i _ => by unfold tRow; rw [if_neg (Nat.not_lt_zero i)]; rfl)
  rw [← hwa]
  clear hwa HO
  go_loopw [11] (fun i wr => ∃ j : Nat, j ≤ n ∧ i = .int .i64 (j : Int) ∧ Hid (RB wr w.heap.size (shs r j)) ∧ Hid (wr.rowIs (w.heap.size + 1) 5 n (tRow r j)) ∧ Hid (Upd noBlock w wr)) (fun i _ => n - (intOf i).toNat)
  case atStart => exact ⟨0, Nat.zero_le _, rfl, T0, B0, U0⟩
  case round =>
    clear T0 B0 U0
    obtain ⟨j, hj, rfl, HB, HR, HU⟩ := hrel
    by_cases h0 : j < n
    · have hok := HOK.out j
      have HNX := Lib.hid (HSS.out j)
      have hrow : ∀ i, tRow r (j + 1) i = if i = j then .int .u8 (((shs r j).first : Nat) : Int) else tRow r j i := fun i => by
        unfold tRow
        by_cases hi : i = j
        · subst hi; rw [if_pos rfl, if_pos (by omega)]
        · rw [if_neg hi]
          have : i < j + 1 ↔ i < j := by omega
          simp only [this]
      have HROW := Lib.hid hrow
      clear hrow
      generalize shs r j = q at *
      have HFI := Lib.hid (fun W => first_any q W hok)
      have HSH := Lib.hid (fun W => shifted8 q W hok)
      have k2 := HB.out.h
      have k3 := HB.out.l
      unfold Rm.agg at HFI HSH
      have hjn : (j : Int) < (n : Int) := by omega
      clear hok
      go_wp2_with (first
        | (go_at_call 208; refine (HFI.out _).mono ?_; rintro e w2 ⟨rfl, u2⟩; have r2 := HB.out.grow u2; have l2 := HR.out.of_block (u2.block _ HR.out.lt (fun h => h)); have a1 := l2.cell h0; have a2 := l2.frozen j; have a3 := r2.h; have a4 := r2.l; have U2 : Hid (Upd noBlock w (w2.setCell ⟨w.heap.size + 1, j, none⟩ (.int .u8 ((q.first : Nat) : Int)))) := (HU.out.trans u2).setCell (p := ⟨w.heap.size + 1, j, none⟩) (.inr (Nat.le_succ _)) _; have R2 : Hid (RB (w2.setCell ⟨w.heap.size + 1, j, none⟩ (.int .u8 ((q.first : Nat) : Int))) w.heap.size q) := block_set_other r2 (by show ¬ w.heap.size = w.heap.size + 1; omega) _; have L2 : Hid ((w2.setCell ⟨w.heap.size + 1, j, none⟩ (.int .u8 ((q.first : Nat) : Int))).rowIs (w.heap.size + 1) 5 n (tRow r (j + 1))) := (l2.set j _).congr (fun i _ => (HROW.out i).symm); have b1 := R2.out.h; have b2 := R2.out.l; clear l2 u2 r2)
        | (go_at_call 150; refine (HSH.out _).mono ?_; rintro e w3 ⟨rfl, u3⟩; have r3 := R2.out.grow u3; have c1 := r3.h; have c2 := r3.l; have c3 := r3.f 0; have c4 := r3.f 1; have F1 := Lib.hid (r3.set q.sh8); have F3 : Hid (Upd noBlock w ((w3.setCell ⟨w.heap.size, 0, none⟩ (.int .u64 (q.sh8.h : Int))).setCell ⟨w.heap.size, 1, none⟩ (.int .u64 (q.sh8.l : Int)))) := ((U2.out.trans u3).setCell (p := ⟨w.heap.size, 0, none⟩) (.inr (Nat.le_refl _)) _).setCell (p := ⟨w.heap.size, 1, none⟩) (.inr (Nat.le_refl _)) _; have l3 := L2.out.of_block (u3.block _ L2.out.lt (fun h => h)); have F2 : Hid (((w3.setCell ⟨w.heap.size, 0, none⟩ (.int .u64 (q.sh8.h : Int))).setCell ⟨w.heap.size, 1, none⟩ (.int .u64 (q.sh8.l : Int))).rowIs (w.heap.size + 1) 5 n (tRow r (j + 1))) := (l3.setOther (by show ¬ w.heap.size + 1 = w.heap.size; omega) _).setOther (by show ¬ w.heap.size + 1 = w.heap.size; omega) _; clear u3 r3 l3))
      go_roundw
      case rel => exact ⟨j + 1, by omega, by go_num, by rw [HNX.out]; exact F1, F2, F3⟩
      case measure => simp [intOf]; omega
    · obtain rfl : j = n := by omega
      have hcv : (convert 105 9 (.slice (some ⟨w.heap.size + 1, 0, none⟩) j j)).run Tryz.prog wr = .ok (.string ⟨d.toArray⟩) wr := by
        have h := run_convert_bytes_back (P := Tryz.prog) wr 105 9 5 ⟨w.heap.size + 1, 0, none⟩ j d Tryz.underlying105 Tryz.underlying5 Tryz.underlying9 (fun i hi => by
          have e : (⟨w.heap.size + 1, 0, none⟩ : Addr).add i = ⟨w.heap.size + 1, i, none⟩ := by
            by_cases h0 : i = 0
            · subst h0; simp [Addr.add]
            · simp [Addr.add, h0]
          rw [e, ← HGET.out i hi]
          exact HR.out.cell (i := i) (by rw [← HLEN.out]; exact hi))
        rw [HLEN.out] at h
        exact h
      go_wp2_with fail
      go_ret
      exact ⟨rfl, HU.out⟩
end Go.Proofs.YtoledgpcgjdjjaaGreatDoor

/- A remainder out of a text. -/
namespace Go.Proofs.YtoledgpcgjdjjaaGreatDoor
open Go.RowKit
def fromStep (s : ByteArray) (r : Rm) (j : Nat) : Rm := if h : j < s.size then ⟨r.sh8.h, r.sh8.l ||| s[j].toNat⟩ else r.sh8
def fromR (s : ByteArray) : Nat → Rm | 0 => Rm.zero | j + 1 => fromStep s (fromR s j) j
theorem fromStep_ok {s : ByteArray} {r : Rm} (h : r.Ok) (j : Nat) : (fromStep s r j).Ok := by
  unfold fromStep
  split
  · refine ⟨h.sh8.1, ?_⟩
    have := Nat.or_lt_two_pow (n := 64) (x := r.sh8.l) (y := s[j].toNat) (by rw [two64]; exact h.sh8.2) (by rw [two64]; have := s[j].toNat_lt; omega)
    rw [two64] at this
    exact this
  · exact h.sh8
theorem fromR_ok (s : ByteArray) (j : Nat) : (fromR s j).Ok := by
  induction j with
  | zero => exact ⟨by show 0 < _; omega, by show 0 < _; omega⟩
  | succ j ih => exact fromStep_ok ih j
def mk1 (r : Rm) (d : Nat) : Nat := r.h &&& (18446744073709551615 - 18446744073709551615 / 2 ^ min d 64)
theorem cast_sh (d : Nat) : (18446744073709551615 : Int) / 2 ^ d = ((18446744073709551615 / 2 ^ d : Nat) : Int) := by simp
def mk2 (r : Rm) (d : Nat) : Nat := r.l &&& (18446744073709551615 - 18446744073709551615 / 2 ^ (d - 64))
def fromT (s : ByteArray) (d : Nat) : Rm := ⟨mk1 (fromR s 16) d, mk2 (fromR s 16) d⟩
attribute [local irreducible] fromR
set_option maxRecDepth 100000 in
set_option maxHeartbeats 1600000 in
theorem from_any (s : ByteArray) (d : Nat) (w : World) (hd1 : 1 ≤ d) (hd2 : d ≤ 104) :
    Calls Tryz.prog 168 #[.string s, .int .i64 (d : Int)] w fun e w' => e = .returned (fromT s d).agg ∧ Upd noBlock w w' := by
  obtain ⟨Q, hQ⟩ : ∃ Q, fromT s d = Q := ⟨_, rfl⟩
  rw [hQ]
  have HQQ := Lib.hid hQ
  clear hQ
  have HOK := Lib.hid (fromR_ok s)
  have HS0 : Hid (fromR s 0 = Rm.zero) := by show _ = _; unfold fromR; rfl
  have HSS : Hid (∀ j, fromR s (j + 1) = fromStep s (fromR s j) j) := fun j => by conv => lhs; unfold fromR
  go_enter Tryz.func168, Tryz.ntmps168
  go_wp2_with fail
  obtain ⟨wa, hwa⟩ : ∃ wa, wa = (w.alloc (.cells #[.int .u64 0, .int .u64 0] 174)).alloc (.cells #[.int .u64 0, .int .u64 0] 174) := ⟨_, rfl⟩
  have U0 : Hid (Upd noBlock w wa) := by rw [hwa]; exact ((Upd.refl _ _).alloc _).alloc _
  have Z0 : Hid (RB wa w.heap.size Rm.zero) := by rw [hwa]; exact block_alloc (heap_alloc_new w _) _
  have T0 : Hid (RB wa (w.heap.size + 1) (fromR s 0)) := by rw [hwa, HS0.out]; exact heap_new1 w _ _
  rw [← hwa]
  clear hwa
  go_loopw [7] (fun i wr => ∃ j : Nat, j ≤ 16 ∧ i = .int .i64 (j : Int) ∧ Hid (RB wr (w.heap.size + 1) (fromR s j)) ∧ Hid (RB wr w.heap.size Rm.zero) ∧ Hid (Upd noBlock w wr)) (fun i _ => 16 - (intOf i).toNat)
  case atStart => exact ⟨0, Nat.zero_le _, rfl, T0, Z0, U0⟩
  case round =>
    clear T0 Z0 U0
    obtain ⟨j, hj, rfl, HB, HZ, HU⟩ := hrel
    by_cases h0 : j < 16
    · have hq := HOK.out j
      have HNX := Lib.hid (HSS.out j)
      generalize fromR s j = r at *
      have hq8 := hq.sh8
      have HSH := Lib.hid (fun W => shifted8 r W hq)
      unfold Rm.agg at HSH
      have k2 := HB.out.h
      have k3 := HB.out.l
      by_cases h1 : j < s.size
      · have hor : bits .or .u64 (r.sh8.l : Int) (s[j].toNat : Int) = ((r.sh8.l ||| s[j].toNat : Nat) : Int) := u64_or_nat _ _ hq8.2 (by have := s[j].toNat_lt; omega)
        have hb8 : s[j].toNat < 256 := s[j].toNat_lt
        have hmod : (s[j].toNat : Int) % 18446744073709551616 = (s[j].toNat : Int) := by omega
        have HST : Hid (fromStep s r j = ⟨r.sh8.h, r.sh8.l ||| s[j].toNat⟩) := dif_pos h1
        clear hq
        go_wp2_with (go_at_call 150; refine (HSH.out _).mono ?_; rintro e w3 ⟨rfl, u3⟩; have r3 := HB.out.grow u3; have c1 := r3.h; have c2 := r3.l; have c3 := r3.f 0; have c4 := r3.f 1; have F1 := Lib.hid (r3.set r.sh8); have F3 : Hid (Upd noBlock w ((w3.setCell ⟨w.heap.size + 1, 0, none⟩ (.int .u64 (r.sh8.h : Int))).setCell ⟨w.heap.size + 1, 1, none⟩ (.int .u64 (r.sh8.l : Int)))) := ((HU.out.trans u3).setCell (p := ⟨w.heap.size + 1, 0, none⟩) (.inr (Nat.le_succ _)) _).setCell (p := ⟨w.heap.size + 1, 1, none⟩) (.inr (Nat.le_succ _)) _; have F2 : Hid (RB ((w3.setCell ⟨w.heap.size + 1, 0, none⟩ (.int .u64 (r.sh8.h : Int))).setCell ⟨w.heap.size + 1, 1, none⟩ (.int .u64 (r.sh8.l : Int))) w.heap.size Rm.zero) := block_set_other (block_set_other (HZ.out.grow u3) (by show ¬ w.heap.size = w.heap.size + 1; omega) _) (by show ¬ w.heap.size = w.heap.size + 1; omega) _; clear u3 r3)
        obtain ⟨w5, hw5⟩ : ∃ w5, w5 = (w3.setCell ⟨w.heap.size + 1, 0, none⟩ (.int .u64 (r.sh8.h : Int))).setCell ⟨w.heap.size + 1, 1, none⟩ (.int .u64 (r.sh8.l : Int)) := ⟨_, rfl⟩
        rw [← hw5] at F1 F2 F3
        rw [← hw5]
        clear hw5 c1 c2 c3 c4 k2 k3
        have d1 : w5.drew.cell? ⟨w.heap.size + 1, 1, none⟩ = some (.int .u64 (r.sh8.l : Int)) := F1.out.l
        have d2 : w5.drew.frozen? ⟨w.heap.size + 1, 1, none⟩ = false := F1.out.f 1
        have G1 : Hid (RB (w5.setCell ⟨w.heap.size + 1, 1, none⟩ (.int .u64 ((r.sh8.l ||| s[j].toNat : Nat) : Int))).drew (w.heap.size + 1) ⟨r.sh8.h, r.sh8.l ||| s[j].toNat⟩) := block_set F1.out _
        have G2 : Hid (RB (w5.setCell ⟨w.heap.size + 1, 1, none⟩ (.int .u64 ((r.sh8.l ||| s[j].toNat : Nat) : Int))).drew w.heap.size Rm.zero) := block_set_other F2.out (by show ¬ w.heap.size = w.heap.size + 1; omega) _
        have G3 : Hid (Upd noBlock w (w5.setCell ⟨w.heap.size + 1, 1, none⟩ (.int .u64 ((r.sh8.l ||| s[j].toNat : Nat) : Int))).drew) := (F3.out.setCell (p := ⟨w.heap.size + 1, 1, none⟩) (.inr (Nat.le_succ _)) _).drew
        rw [← HST.out] at G1
        generalize r.sh8.l ||| s[j].toNat = z at *
        go_region
        go_wp2_with fail
        go_roundw
        case rel => exact ⟨j + 1, by omega, by go_num, by rw [HNX.out]; exact G1, G2, G3⟩
        case measure => simp [intOf]; omega
      · have HST : Hid (fromStep s r j = r.sh8) := dif_neg h1
        have hlt : ¬ (j : Int) < (s.size : Int) := by omega
        clear hq
        go_wp2_with (go_at_call 150; refine (HSH.out _).mono ?_; rintro e w3 ⟨rfl, u3⟩; have r3 := HB.out.grow u3; have c1 := r3.h; have c2 := r3.l; have c3 := r3.f 0; have c4 := r3.f 1; have F1 := Lib.hid (r3.set r.sh8); have F3 : Hid (Upd noBlock w ((w3.setCell ⟨w.heap.size + 1, 0, none⟩ (.int .u64 (r.sh8.h : Int))).setCell ⟨w.heap.size + 1, 1, none⟩ (.int .u64 (r.sh8.l : Int)))) := ((HU.out.trans u3).setCell (p := ⟨w.heap.size + 1, 0, none⟩) (.inr (Nat.le_succ _)) _).setCell (p := ⟨w.heap.size + 1, 1, none⟩) (.inr (Nat.le_succ _)) _; have F2 : Hid (RB ((w3.setCell ⟨w.heap.size + 1, 0, none⟩ (.int .u64 (r.sh8.h : Int))).setCell ⟨w.heap.size + 1, 1, none⟩ (.int .u64 (r.sh8.l : Int))) w.heap.size Rm.zero) := block_set_other (block_set_other (HZ.out.grow u3) (by show ¬ w.heap.size = w.heap.size + 1; omega) _) (by show ¬ w.heap.size = w.heap.size + 1; omega) _; clear u3 r3)
        go_roundw
        case rel => exact ⟨j + 1, by omega, by go_num, by rw [HNX.out, HST.out]; exact F1, F2, F3⟩
        case measure => simp [intOf]; omega
    · obtain rfl : j = 16 := by omega
      have hq := HOK.out 16
      have hz1 : mk1 (fromR s 16) d = Q.h := congrArg Rm.h HQQ.out
      have hz2 : mk2 (fromR s 16) d = Q.l := congrArg Rm.l HQQ.out
      generalize fromR s 16 = r at *
      have e1 : wr.drew.cell? ⟨w.heap.size + 1, 0, none⟩ = some (.int .u64 (r.h : Int)) := HB.out.h
      have e2 : wr.drew.frozen? ⟨w.heap.size + 1, 0, none⟩ = false := HB.out.f 0
      have hm1 : bits .andNot .u64 (r.h : Int) (18446744073709551615 / 2 ^ min d 64) = ((mk1 r d : Nat) : Int) := by
        rw [cast_sh]; exact u64_andNot_nat _ _ hq.1 (Nat.lt_of_le_of_lt (Nat.div_le_self _ _) (by decide))
      have F1 : Hid (RB (wr.setCell ⟨w.heap.size + 1, 0, none⟩ (.int .u64 ((mk1 r d : Nat) : Int))).drew (w.heap.size + 1) ⟨mk1 r d, r.l⟩) := block_set HB.out _
      have F2 : Hid (RB (wr.setCell ⟨w.heap.size + 1, 0, none⟩ (.int .u64 ((mk1 r d : Nat) : Int))).drew w.heap.size Rm.zero) := block_set_other HZ.out (by show ¬ w.heap.size = w.heap.size + 1; omega) _
      have F3 : Hid (Upd noBlock w (wr.setCell ⟨w.heap.size + 1, 0, none⟩ (.int .u64 ((mk1 r d : Nat) : Int))).drew) := (HU.out.setCell (p := ⟨w.heap.size + 1, 0, none⟩) (.inr (Nat.le_succ _)) _).drew
      have htn : (if (d : Int) - 64 < 0 then (0 : Int) else (d : Int) - 64).toNat = d - 64 := by split <;> omega
      have hm2 : bits .andNot .u64 (r.l : Int) (18446744073709551615 / 2 ^ (if (d : Int) - 64 < 0 then (0 : Int) else (d : Int) - 64).toNat) = ((Q.l : Nat) : Int) := by
        rw [htn, cast_sh, ← hz2]; exact u64_andNot_nat _ _ hq.2 (Nat.lt_of_le_of_lt (Nat.div_le_self _ _) (by decide))
      rw [hz1] at hm1 F1 F2 F3
      have HM2 := Lib.hid hm2
      clear htn hz1 hz2 hm2
      go_wp2_with fail
      go_region
      obtain ⟨w5, hw5⟩ : ∃ w5, w5 = (wr.setCell ⟨w.heap.size + 1, 0, none⟩ (.int .u64 (Q.h : Int))).drew := ⟨_, rfl⟩
      rw [← hw5] at F1 F2 F3
      rw [← hw5]
      clear hw5 e1 e2 hm1 hq
      have e1 : w5.drew.cell? ⟨w.heap.size + 1, 1, none⟩ = some (.int .u64 (r.l : Int)) := F1.out.l
      have e2 : w5.drew.frozen? ⟨w.heap.size + 1, 1, none⟩ = false := F1.out.f 1
      have w64 : IntKind.i64.wrap ((d : Int) - 64) = (d : Int) - 64 := by rw [IntKind.wrap_i64]; omega
      have hm2 := HM2.out
      have G1 : Hid (RB (w5.setCell ⟨w.heap.size + 1, 1, none⟩ (.int .u64 (Q.l : Int))).drew (w.heap.size + 1) Q) := block_set F1.out _
      have G2 : Hid (RB (w5.setCell ⟨w.heap.size + 1, 1, none⟩ (.int .u64 (Q.l : Int))).drew w.heap.size Rm.zero) := block_set_other F2.out (by show ¬ w.heap.size = w.heap.size + 1; omega) _
      have G3 : Hid (Upd noBlock w (w5.setCell ⟨w.heap.size + 1, 1, none⟩ (.int .u64 (Q.l : Int))).drew) := (F3.out.setCell (p := ⟨w.heap.size + 1, 1, none⟩) (.inr (Nat.le_succ _)) _).drew
      go_wp2_with fail
      go_region
      all_goals
        obtain ⟨w6, hw6⟩ : ∃ w6, w6 = (w5.setCell ⟨w.heap.size + 1, 1, none⟩ (.int .u64 (Q.l : Int))).drew := ⟨_, rfl⟩
        rw [← hw6] at G1 G2 G3
        rw [← hw6]
        clear hw6 e1 e2 hm2
        have k2 := G1.out.h
        have k3 := G1.out.l
        have z2 := G2.out.h
        have z3 := G2.out.l
        have z4 := G2.out.f 0
        have z5 := G2.out.f 1
        have HL : Hid (RB ((w6.setCell ⟨w.heap.size, 0, none⟩ (.int .u64 (Q.h : Int))).setCell ⟨w.heap.size, 1, none⟩ (.int .u64 (Q.l : Int))) w.heap.size Q) := G2.out.set Q
        have HUL : Hid (Upd noBlock w ((w6.setCell ⟨w.heap.size, 0, none⟩ (.int .u64 (Q.h : Int))).setCell ⟨w.heap.size, 1, none⟩ (.int .u64 (Q.l : Int)))) := (G3.out.setCell (p := ⟨w.heap.size, 0, none⟩) (.inr (Nat.le_refl _)) _).setCell (p := ⟨w.heap.size, 1, none⟩) (.inr (Nat.le_refl _)) _
        go_wp2_with fail
        all_goals exact bodyPost_ret_by (ret_rm rfl _ _ w.heap.size _ _ rfl HL.out) rfl ⟨rfl, HUL.out⟩
end Go.Proofs.YtoledgpcgjdjjaaGreatDoor
