/- A remainder's first bytes as a text. -/
import Derived.Test.YtjfbbnmonfankaaKIa
import Derived.Test.YtjfbbnmonfankaaKIb
import Derived.Deep.OwnRows
import Derived.Lib.ConvBytes
namespace Go.Proofs.Ytjfbbnmonfankaa
open Go.RowKit

def shs (r : Rm) : Nat → Rm | 0 => r | j + 1 => (shs r j).sh8
theorem shs_ok {r : Rm} (h : r.Ok) (j : Nat) : (shs r j).Ok := by
  induction j with
  | zero => exact h
  | succ j ih => exact ih.sh8
/-- the first n bytes -/
def textL (r : Rm) (n : Nat) : List UInt8 := (List.range n).map fun i => UInt8.ofNat (shs r i).first
theorem textL_length (r : Rm) (n : Nat) : (textL r n).length = n := by simp [textL]
def tRow (r : Rm) (k : Nat) (i : Nat) : Value := .int .u8 (((if i < k then (shs r i).first else 0) : Nat) : Int)
theorem textL_get {r : Rm} (h : r.Ok) (n j : Nat) (hj : j < (textL r n).length) : tRow r n j = .int .u8 (((textL r n)[j]).toNat : Int) := by
  have hn : j < n := by rw [textL_length] at hj; exact hj
  have hf := (shs_ok h j).first
  unfold tRow
  rw [if_pos hn]
  have e : ((textL r n)[j]).toNat = (shs r j).first := by
    simp only [textL, List.getElem_map, List.getElem_range]
    rw [UInt8.toNat_ofNat']
    exact Nat.mod_eq_of_lt hf
  rw [e]
theorem tbyteCells : (Try.prog.info? 5).map (fun i => (i.zero, i.size, i.bytes)) = some (some (.int .u8 0), 1, 1) := by kernel_rfl
attribute [local irreducible] shs textL

set_option maxRecDepth 100000 in
set_option maxHeartbeats 1600000 in
theorem text_any (r : Rm) (n : Nat) (w : World) (hr : r.Ok) (hn : n ≤ 1000) :
    Calls Try.prog 20 #[r.agg, .int .i64 (n : Int)] w fun e w' => e = .returned (.string ⟨(textL r n).toArray⟩) ∧ Upd noBlock w w' := by
  have hmk : ∀ w : World, (Instr.makeSlice 43 (.int .i64 (n : Int)) (.int .i64 (n : Int))).run Try.prog w = .ok (.slice (some ⟨w.heap.size, 0, none⟩) n n) (w.alloc (.cells (madeCells #[.int .u8 0] n) 5)) :=
    run_make_row' (P := Try.prog) 43 5 (.int .u8 0) 1 Try.underlying43 tbyteCells rfl .i64 .i64 n (by omega) (by omega)
  obtain ⟨O, HO⟩ : ∃ O : Obj, Hid (O = .cells (madeCells #[.int .u8 0] n) 5) := ⟨_, rfl⟩
  rw [← HO.out] at hmk
  have HOK := Lib.hid (fun j => shs_ok hr j)
  have HGET := Lib.hid (fun j (hj : j < (textL r n).length) => textL_get hr n j hj)
  have HLEN := Lib.hid (textL_length r n)
  generalize hd : textL r n = d at *
  have HS0 : Hid (shs r 0 = r) := by show _ = _; unfold shs; rfl
  have HSS : Hid (∀ j, shs r (j + 1) = (shs r j).sh8) := fun j => by conv => lhs; unfold shs
  clear hd hr
  unfold Rm.agg
  go_enter Try.func20, Try.ntmps20
  go_wp2_with fail
  clear hmk
  obtain ⟨wa, hwa⟩ : ∃ wa, wa = (w.alloc (.cells #[.int .u64 (r.h : Int), .int .u64 (r.l : Int)] 64)).alloc O := ⟨_, rfl⟩
  have U0 : Hid (Upd noBlock w wa) := by rw [hwa]; exact ((Upd.refl _ _).alloc _).alloc _
  have T0 : Hid (RB wa w.heap.size (shs r 0)) := by rw [hwa, HS0.out]; exact block_alloc (heap_alloc_new w _) _
  have B0 : Hid (wa.rowIs (w.heap.size + 1) 5 n (tRow r 0)) := by
    rw [hwa, HO.out]
    have h := World.rowIs_made (w.alloc (.cells #[.int .u64 (r.h : Int), .int .u64 (r.l : Int)] 64)) (.int .u8 0) n 5
    rw [World.size_alloc] at h
    exact h.congr (fun i _ => by unfold tRow; rw [if_neg (Nat.not_lt_zero i)]; rfl)
  rw [← hwa]
  clear hwa HO
  go_loopw [11] (fun i wr => ∃ j : Nat, j ≤ n ∧ i = .int .i64 (j : Int) ∧ Hid (RB wr w.heap.size (shs r j)) ∧ Hid (wr.rowIs (w.heap.size + 1) 5 n (tRow r j)) ∧ Hid (Upd noBlock w wr)) (fun i _ => n - (intOf i).toNat)
  case atStart => exact ⟨0, Nat.zero_le _, rfl, T0, B0, U0⟩
  case round =>
    clear T0 B0 U0
    obtain ⟨j, hj, rfl, HB, HR, HU⟩ := hrel
    by_cases h0 : j < n
    · have hok := HOK.out j
      have HNX := Lib.hid (HSS.out j)
      have hrow : ∀ i, tRow r (j + 1) i = if i = j then .int .u8 (((shs r j).first : Nat) : Int) else tRow r j i := fun i => by
        unfold tRow
        by_cases hi : i = j
        · subst hi; rw [if_pos rfl, if_pos (by omega)]
        · rw [if_neg hi]
          have : i < j + 1 ↔ i < j := by omega
          simp only [this]
      have HROW := Lib.hid hrow
      clear hrow
      generalize shs r j = q at *
      have HFI := Lib.hid (fun W => first_any q W hok)
      have HSH := Lib.hid (fun W => shifted8 q W hok)
      have k2 := HB.out.h
      have k3 := HB.out.l
      unfold Rm.agg at HFI HSH
      have hjn : (j : Int) < (n : Int) := by omega
      clear hok
      go_wp2_with (first
        | (go_at_call 35; refine (HFI.out _).mono ?_; rintro e w2 ⟨rfl, u2⟩; have r2 := HB.out.grow u2; have l2 := HR.out.of_block (u2.block _ HR.out.lt (fun h => h)); have a1 := l2.cell h0; have a2 := l2.frozen j; have a3 := r2.h; have a4 := r2.l; have U2 : Hid (Upd noBlock w (w2.setCell ⟨w.heap.size + 1, j, none⟩ (.int .u8 ((q.first : Nat) : Int)))) := (HU.out.trans u2).setCell (p := ⟨w.heap.size + 1, j, none⟩) (.inr (Nat.le_succ _)) _; have R2 : Hid (RB (w2.setCell ⟨w.heap.size + 1, j, none⟩ (.int .u8 ((q.first : Nat) : Int))) w.heap.size q) := block_set_other r2 (by show ¬ w.heap.size = w.heap.size + 1; omega) _; have L2 : Hid ((w2.setCell ⟨w.heap.size + 1, j, none⟩ (.int .u8 ((q.first : Nat) : Int))).rowIs (w.heap.size + 1) 5 n (tRow r (j + 1))) := (l2.set j _).congr (fun i _ => (HROW.out i).symm); have b1 := R2.out.h; have b2 := R2.out.l; clear l2 u2 r2)
        | (go_at_call 34; refine (HSH.out _).mono ?_; rintro e w3 ⟨rfl, u3⟩; have r3 := R2.out.grow u3; have c1 := r3.h; have c2 := r3.l; have c3 := r3.f 0; have c4 := r3.f 1; have F1 := Lib.hid (r3.set q.sh8); have F3 : Hid (Upd noBlock w ((w3.setCell ⟨w.heap.size, 0, none⟩ (.int .u64 (q.sh8.h : Int))).setCell ⟨w.heap.size, 1, none⟩ (.int .u64 (q.sh8.l : Int)))) := ((U2.out.trans u3).setCell (p := ⟨w.heap.size, 0, none⟩) (.inr (Nat.le_refl _)) _).setCell (p := ⟨w.heap.size, 1, none⟩) (.inr (Nat.le_refl _)) _; have l3 := L2.out.of_block (u3.block _ L2.out.lt (fun h => h)); have F2 : Hid (((w3.setCell ⟨w.heap.size, 0, none⟩ (.int .u64 (q.sh8.h : Int))).setCell ⟨w.heap.size, 1, none⟩ (.int .u64 (q.sh8.l : Int))).rowIs (w.heap.size + 1) 5 n (tRow r (j + 1))) := (l3.setOther (by show ¬ w.heap.size + 1 = w.heap.size; omega) _).setOther (by show ¬ w.heap.size + 1 = w.heap.size; omega) _; clear u3 r3 l3))
      go_roundw
      case rel => exact ⟨j + 1, by omega, by go_num, by rw [HNX.out]; exact F1, F2, F3⟩
      case measure => simp [intOf]; omega
    · obtain rfl : j = n := by omega
      have hcv : (convert 43 9 (.slice (some ⟨w.heap.size + 1, 0, none⟩) j j)).run Try.prog wr = .ok (.string ⟨d.toArray⟩) wr := by
        have h := run_convert_bytes_back (P := Try.prog) wr 43 9 5 ⟨w.heap.size + 1, 0, none⟩ j d Try.underlying43 Try.underlying5 Try.underlying9 (fun i hi => by
          have e : (⟨w.heap.size + 1, 0, none⟩ : Addr).add i = ⟨w.heap.size + 1, i, none⟩ := by
            by_cases h0 : i = 0
            · subst h0; simp [Addr.add]
            · simp [Addr.add, h0]
          rw [e, ← HGET.out i hi]
          exact HR.out.cell (i := i) (by rw [← HLEN.out]; exact hi))
        rw [HLEN.out] at h
        exact h
      go_wp2_with fail
      go_ret
      exact ⟨rfl, HU.out⟩
end Go.Proofs.Ytjfbbnmonfankaa
