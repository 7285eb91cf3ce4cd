/- Parity; what a generator leaves of a text. -/
import Derived.Test.YtjfbbnmonfankaaKIe
namespace Go.Proofs.Ytjfbbnmonfankaa
open Go.RowKit Pm Gfm

theorem u8_lt (b : UInt8) : b.toNat < 256 := b.toNat_lt
def stepS (t : Nat) : Nat → Rm := byteStep (tailR (13 * t) (tl t))
theorem stepS_ok (t q : Nat) (h1 : 1 ≤ t) (h8 : t ≤ 8) (hq : q < 256) : (stepS t q).Ok := byteStep_ok (tailR_ok _ _ (by omega)) q hq
theorem Made.step {w : World} {c t : Nat} {k : Int} (h : Made w c t k) (q : Nat) (hq : q < 256) :
    w.cell? ⟨c, 12 + q * 2, none⟩ = some (.int .u64 ((stepS t q).h : Int)) ∧ w.cell? ⟨c, 12 + q * 2 + 1, none⟩ = some (.int .u64 ((stepS t q).l : Int)) := by
  have e : ∀ j, (cS c t k (.int .u32 1) (.int .i32 0) ((13 * t : Nat) : Int) (stepsV t)).R (12 + j) = (tabA (stepS t))[j]? := fun j => by
    show cR t k (.int .u32 1) (.int .i32 0) ((13 * t : Nat) : Int) (tabA (stepS t)) (12 + j) = _
    unfold cR
    rw [if_neg (by omega), if_neg (by omega), if_neg (by omega), if_neg (by omega), if_neg (by omega), if_neg (by omega), if_pos (by omega), show 12 + j - 12 = j by omega]
  obtain ⟨n, h⟩ := h
  exact ⟨(Fld.out h.fld (12 + q * 2) (.inr (by show 5 + 6 ≤ _; omega))).trans ((e (q * 2)).trans (tabA_h _ _ hq)),
    (Fld.out h.fld (12 + q * 2 + 1) (.inr (by show 5 + 6 ≤ _; omega))).trans ((e (q * 2 + 1)).trans (tabA_l _ _ hq))⟩
def remStep (S : Nat → Rm) (r : Rm) (b : UInt8) : Rm := r.sh8.plus (S (r.first ^^^ b.toNat))
def remOf (S : Nat → Rm) (l : List UInt8) : Rm := l.foldl (remStep S) Rm.zero
theorem remOf_ok (t : Nat) (l : List UInt8) (h1 : 1 ≤ t) (h8 : t ≤ 8) : (remOf (stepS t) l).Ok := by
  unfold remOf
  suffices h : ∀ (l : List UInt8) (r : Rm), r.Ok → (l.foldl (remStep (stepS t)) r).Ok from h l _ Rm.zero_ok
  intro l
  induction l with
  | nil => exact fun r h => h
  | cons b l ih => exact fun r h => ih _ (Rm.Ok.plus h.sh8 (stepS_ok t _ h1 h8 (Nat.xor_lt_two_pow (n := 8) h.first (u8_lt b))))
theorem remOf_take (S : Nat → Rm) (s : ByteArray) (k : Nat) (h : k < s.size) : remOf S (s.data.toList.take (k + 1)) = remStep S (remOf S (s.data.toList.take k)) s[k] := by
  have hl : k < s.data.toList.length := by simpa using h
  rw [List.take_succ_eq_append_getElem hl]
  unfold remOf
  rw [List.foldl_append]
  rfl
attribute [local irreducible] Pm.exps pmul mp GG mpol tl tabA byteStep tailR stepsV stepS remOf

set_option maxRecDepth 100000 in
set_option maxHeartbeats 1600000 in
theorem parity_any (c t : Nat) (k : Int) (w : World) (h : CodeP w c t k) (ht1 : 1 ≤ t) (ht8 : t ≤ 8) :
    Calls Try.prog 13 #[.pointer (some ⟨c, 0, none⟩)] w fun e w' => e = .returned (.int .i64 (((13 * t + 7) / 8 : Nat) : Int)) ∧ Made w' c t k ∧ Upd (oneBlock c) w w' ∧ (Made w c t k → Upd noBlock w w') := by
  have HR := Lib.hid (ready_any c t k w h ht1 ht8)
  obtain ⟨d, hd⟩ : ∃ d, 13 * t = d := ⟨_, rfl⟩
  have HD : Hid (∀ W, Made W c t k → W.cell? ⟨c, 11, none⟩ = some (.int .i64 (d : Int))) := fun W hW => hd ▸ hW.deg
  have hb : d ≤ 104 := by omega
  rw [hd]
  have w1 : IntKind.i64.wrap ((d : Int) + 7) = ((d + 7 : Nat) : Int) := by rw [IntKind.wrap_i64]; omega
  have w2 : IntKind.i64.wrap (((d + 7 : Nat) : Int) / 8) = (((d + 7) / 8 : Nat) : Int) := by rw [IntKind.wrap_i64]; omega
  have w3 : ((d + 7 : Nat) : Int) / 8 = (((d + 7) / 8 : Nat) : Int) := by omega
  clear h hd
  go_enter Try.func13, Try.ntmps13
  go_wp2_with (go_at_call 18; refine HR.out.mono ?_; rintro e w' ⟨rfl, hm, hu, hn⟩; have kd := HD.out w' hm; have HM := Lib.hid hm; have HU := Lib.hid hu; have HN := Lib.hid hn)
  go_ret
  exact ⟨by first | rfl | (congr 2; omega), HM.out, HU.out, HN.out⟩

set_option maxRecDepth 100000 in
set_option maxHeartbeats 3200000 in
theorem remainderOf_any (c t : Nat) (k : Int) (s : ByteArray) (w : World) (h : Made w c t k) (ht1 : 1 ≤ t) (ht8 : t ≤ 8) (hs : s.size ≤ maxLen) :
    Calls Try.prog 19 #[.pointer (some ⟨c, 0, none⟩), .string s] w fun e w' => e = .returned (remOf (stepS t) s.data.toList).agg ∧ Upd noBlock w w' := by
  unfold maxLen at hs
  have HM := Lib.hid h
  have HOK := Lib.hid (fun l => remOf_ok t l ht1 ht8)
  have HSO := Lib.hid (fun q (hq : q < 256) => stepS_ok t q ht1 ht8 hq)
  obtain ⟨rr, hrr⟩ : ∃ rr, remOf (stepS t) s.data.toList = rr := ⟨_, rfl⟩
  rw [hrr]
  have HRR := Lib.hid hrr
  clear h hrr
  go_enter Try.func19, Try.ntmps19
  go_wp2_with fail
  obtain ⟨wa, hwa⟩ : ∃ wa, wa = (w.alloc (.cells #[.int .u64 0, .int .u64 0] 64)).alloc (.cells #[.int .u64 0, .int .u64 0] 64) := ⟨_, rfl⟩
  have U0 : Hid (Upd noBlock w wa) := by rw [hwa]; exact ((Upd.refl _ _).alloc _).alloc _
  have Z0 : Hid (RB wa w.heap.size Rm.zero) := by rw [hwa]; exact block_alloc (heap_alloc_new w _) _
  have T0 : Hid (RB wa (w.heap.size + 1) (remOf (stepS t) (s.data.toList.take 0))) := by rw [hwa, List.take_zero]; unfold remOf; exact heap_new1 w _ _
  rw [← hwa]
  clear hwa
  go_loopw [9] (fun i wr => ∃ j : Nat, j ≤ s.size ∧ i = .int .i64 (j : Int) ∧ Hid (RB wr (w.heap.size + 1) (remOf (stepS t) (s.data.toList.take j))) ∧ Hid (RB wr w.heap.size Rm.zero) ∧ Hid (Upd noBlock w wr)) (fun i _ => s.size - (intOf i).toNat)
  case atStart => exact ⟨0, Nat.zero_le _, rfl, T0, Z0, U0⟩
  case round =>
    clear T0 Z0 U0
    obtain ⟨j, hj, rfl, HB, HZ, HU⟩ := hrel
    by_cases h0 : j < s.size
    · have hq := HOK.out (s.data.toList.take j)
      have HNX := Lib.hid (remOf_take (stepS t) s j h0)
      generalize remOf (stepS t) (s.data.toList.take j) = r at *
      have hb8 := u8_lt s[j]
      have hx : bits .xor .u8 (r.first : Int) (s[j].toNat : Int) = ((r.first ^^^ s[j].toNat : Nat) : Int) := u8_xor_nat _ _ hq.first hb8
      have hz : r.first ^^^ s[j].toNat < 256 := Nat.xor_lt_two_pow (n := 8) hq.first hb8
      have HSTEP : Hid (remOf (stepS t) (s.data.toList.take (j + 1)) = r.sh8.plus (stepS t (r.first ^^^ s[j].toNat))) := HNX.out
      generalize r.first ^^^ s[j].toNat = z at *
      have hpo := HSO.out z hz
      have HMS : Hid (∀ W, Upd noBlock w W → W.cell? ⟨c, 12 + z * 2, none⟩ = some (.int .u64 ((stepS t z).h : Int)) ∧ W.cell? ⟨c, 12 + z * 2 + 1, none⟩ = some (.int .u64 ((stepS t z).l : Int))) := fun W hW => (HM.out.keep hW).step z hz
      have HZL := Lib.hid hz
      generalize stepS t z = p at *
      have HRB : Hid (∀ W, Upd noBlock wr W → RB W (w.heap.size + 1) r) := fun W hW => HB.out.grow hW
      have k2 := (HRB.out wr.drew (Upd.refl _ _).drew).h
      have k3 := (HRB.out wr.drew (Upd.refl _ _).drew).l
      have HSH := Lib.hid (fun W => shifted8 r W hq)
      have HFI := Lib.hid (fun W => first_any r W hq)
      have HPL := Lib.hid (fun W => plus_any r.sh8 p W hq.sh8 hpo)
      have HFIN : Hid (∀ W, Upd noBlock wr W → RB ((W.setCell ⟨w.heap.size + 1, 0, none⟩ (.int .u64 ((r.sh8.plus p).h : Int))).setCell ⟨w.heap.size + 1, 1, none⟩ (.int .u64 ((r.sh8.plus p).l : Int))) (w.heap.size + 1) (r.sh8.plus p) ∧ RB ((W.setCell ⟨w.heap.size + 1, 0, none⟩ (.int .u64 ((r.sh8.plus p).h : Int))).setCell ⟨w.heap.size + 1, 1, none⟩ (.int .u64 ((r.sh8.plus p).l : Int))) w.heap.size Rm.zero ∧ Upd noBlock w ((W.setCell ⟨w.heap.size + 1, 0, none⟩ (.int .u64 ((r.sh8.plus p).h : Int))).setCell ⟨w.heap.size + 1, 1, none⟩ (.int .u64 ((r.sh8.plus p).l : Int)))) := fun W hW =>
        ⟨(HRB.out W hW).set _, block_set_other (block_set_other (HZ.out.grow hW) (by show ¬ w.heap.size = w.heap.size + 1; omega) _) (by show ¬ w.heap.size = w.heap.size + 1; omega) _,
          ((HU.out.trans hW).setCell (.inr (Nat.le_succ _)) _).setCell (.inr (Nat.le_succ _)) _⟩
      unfold Rm.agg at HSH HFI HPL
      clear HB hq hb8 HNX hpo
      have hzi : (z : Int) < 256 := by omega
      go_wp2_with fail
      go_region_with (first
        | (go_at_call 34; refine (HSH.out _).mono ?_; rintro e w2 ⟨rfl, u2⟩; have v2 := ((Upd.refl noBlock wr).drew).trans u2; have a2 := (HRB.out w2 v2).h; have a3 := (HRB.out w2 v2).l)
        | (go_at_call 35; refine (HFI.out _).mono ?_; rintro e w3 ⟨rfl, u3⟩; have v3 := v2.trans u3; have b2 := (HMS.out w3 (HU.out.trans v3)).1; have b3 := (HMS.out w3 (HU.out.trans v3)).2)
        | (go_at_call 25; refine (HPL.out _).mono ?_; rintro e w4 ⟨rfl, u4⟩; have v4 := v3.trans u4; have c2 := (HRB.out w4 v4).h; have c3 := (HRB.out w4 v4).l; have c4 := (HRB.out w4 v4).f 0; have c5 := (HRB.out w4 v4).f 1))
      all_goals
        have hfin := HFIN.out w4 v4
        have F1 := Lib.hid hfin.1
        have F2 := Lib.hid hfin.2.1
        have F3 := Lib.hid hfin.2.2
        clear hfin
        go_wp2
        go_roundw
        case rel => exact ⟨j + 1, by omega, by go_num, by rw [HSTEP.out]; exact F1, F2, F3⟩
        case measure => simp [intOf]; omega
    · obtain rfl : j = s.size := by omega
      have e : s.data.toList.take s.size = s.data.toList := List.take_of_length_le (by simp)
      rw [e, HRR.out] at HB
      obtain ⟨r, rfl⟩ : ∃ r, r = rr := ⟨_, rfl⟩
      have k2 := HB.out.h
      have k3 := HB.out.l
      have z2 := HZ.out.h
      have z3 := HZ.out.l
      have z4 := HZ.out.f 0
      have z5 := HZ.out.f 1
      have HL : Hid (RB ((wr.setCell ⟨w.heap.size, 0, none⟩ (.int .u64 (r.h : Int))).setCell ⟨w.heap.size, 1, none⟩ (.int .u64 (r.l : Int))) w.heap.size r) := HZ.out.set r
      have HUL : Hid (Upd noBlock w ((wr.setCell ⟨w.heap.size, 0, none⟩ (.int .u64 (r.h : Int))).setCell ⟨w.heap.size, 1, none⟩ (.int .u64 (r.l : Int)))) := (HU.out.setCell (p := ⟨w.heap.size, 0, none⟩) (.inr (Nat.le_refl _)) _).setCell (p := ⟨w.heap.size, 1, none⟩) (.inr (Nat.le_refl _)) _
      go_wp2_with fail
      exact bodyPost_ret_by (ret_rm rfl _ _ w.heap.size _ _ rfl HL.out) rfl ⟨rfl, HUL.out⟩
end Go.Proofs.Ytjfbbnmonfankaa
