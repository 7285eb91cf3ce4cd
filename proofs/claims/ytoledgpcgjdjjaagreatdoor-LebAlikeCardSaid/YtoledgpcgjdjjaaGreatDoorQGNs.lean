import Derived.Test.YtoledgpcgjdjjaaGreatDoorQGNi
import Derived.Test.YtoledgpcgjdjjaaGreatDoorQGBy
import Derived.RangeFuncBox
import Derived.RangeFuncFrom
import Derived.RangeFuncBound
import Derived.RangeFuncCalls
import Derived.RangeFuncLeaves
import Derived.Shelf.Abstract
import Derived.Shelf.RegionOpen
import Derived.OwnWalkIn
import Derived.TacticsInMore
import Derived.RegionIn
import Derived.LoopNIn
import Derived.LoopIn
/- Noise: the numbers, and the bits of one piece, inside a fence. -/
namespace Go.Proofs.YtoledgpcgjdjjaaGreatDoor
open Go.RowKit
attribute [local go_sem] Oper.semAt_some

def drawnN (h b : Nat) : Nat := h / 8589934592 % b
def stepH (h : Nat) : Nat := (h * 6364136223846793005 + 1442695040888963407) % 18446744073709551616
set_option maxRecDepth 100000 in
theorem drawn_in (F : Fence) (n : Nat) (hF : F.fn 207) (hro : F.round = none) (h b : Nat) (w : World) (hh : h < 18446744073709551616) (h1 : 1 ≤ b) (hb : b ≤ 16384) :
    CallsIn F n Tryz.prog 207 #[.int .u64 (h : Int), .int .i64 (b : Int)] w fun e w' => e = .returned (.int .i64 ((drawnN h b : Nat) : Int)) ∧ w = w' := by
  have HH := Lib.hid hh
  clear hh
  refine callsIn_of_wp Tryz.func207 rfl hF ?_ hro
  simp only [Tryz.ntmps207, List.size_toArray, List.length_cons, List.length_nil, Nat.reduceAdd, Nat.reduceSub, Array.replicate_succ, Array.replicate_zero, List.push_toArray, List.append_toArray, List.nil_append, List.cons_append]
  gi_wp2
  go_ret
  refine ⟨?_, rfl⟩
  have hlt : drawnN h b < b := by rw [drawnN]; exact Nat.mod_lt _ (by omega)
  have e0 : (h : Int) / 8589934592 = ((h / 8589934592 : Nat) : Int) := by omega
  have e : (h : Int) / 8589934592 % (b : Int) = ((drawnN h b : Nat) : Int) := by rw [e0, ← Int.natCast_emod, drawnN]
  have e2 : wrap64 ((drawnN h b : Nat) : Int) = ((drawnN h b : Nat) : Int) := by unfold wrap64; omega
  show Ending.returned (.int .i64 (wrap64 ((h : Int) / 8589934592 % (b : Int)))) = _
  rw [e, e2]

def turnBit (f : Nat → Nat) (o b : Nat) : Nat → Nat := fun j => if j = o + b / 8 then f j ^^^ 2 ^ (b % 8) else f j
section
variable (s : Nat → Nat) (d : Nat → Nat) (o : Nat)
def turnsG : Nat → Nat → (Nat → Nat) → Nat → Nat
  | 0, _, f => f
  | k + 1, h, f => turnsG k (s h) (turnBit f o (d (s h)))
def stepsG : Nat → Nat → Nat
  | 0, h => h
  | k + 1, h => stepsG k (s h)
theorem stepsG_succ : ∀ (k h : Nat), stepsG s (k + 1) h = s (stepsG s k h)
  | 0, _ => rfl
  | k + 1, h => stepsG_succ k (s h)
theorem turnsG_succ : ∀ (k h : Nat) (f : Nat → Nat), turnsG s d o (k + 1) h f = turnBit (turnsG s d o k h f) o (d (stepsG s (k + 1) h))
  | 0, _, _ => rfl
  | k + 1, h, f => turnsG_succ k (s h) (turnBit f o (d (s h)))
end
def stepsH (k h : Nat) : Nat := stepsG stepH k h
def turnsN (o len k h : Nat) (f : Nat → Nat) : Nat → Nat := turnsG stepH (fun x => drawnN x (8 * len)) o k h f
theorem stepsH_succ (k h : Nat) : stepsH (k + 1) h = stepH (stepsH k h) := stepsG_succ stepH k h
theorem turns_succ (o len k h : Nat) (f : Nat → Nat) : turnsN o len (k + 1) h f = turnBit (turnsN o len k h f) o (drawnN (stepsH (k + 1) h) (8 * len)) := turnsG_succ stepH (fun x => drawnN x (8 * len)) o k h f
def pieceT (most o len h : Nat) (f : Nat → Nat) : Nat → Nat := turnsN o len (drawnN h most + 1) h f
theorem stepH_lt (h : Nat) : stepH h < 18446744073709551616 := by rw [stepH]; exact Nat.mod_lt _ (by omega)
theorem turnBit_lt {f : Nat → Nat} (hf : ∀ j, f j < 256) (o b : Nat) : ∀ j, turnBit f o b j < 256 := by
  intro j
  unfold turnBit
  split
  · exact Nat.xor_lt_two_pow (n := 8) (hf j) (Nat.pow_lt_pow_right (by omega) (by omega))
  · exact hf j
theorem turns_lt (o len k h : Nat) (f : Nat → Nat) (hf : ∀ j, f j < 256) : ∀ j, turnsN o len k h f j < 256 := by
  induction k with
  | zero => exact hf
  | succ k ih => rw [turns_succ]; exact turnBit_lt ih _ _
theorem pow_shift (s : Nat) (hs : s < 8) : (2 ^ s : Nat) < 256 := Nat.pow_lt_pow_right (m := s) (n := 8) (by omega) hs
end Go.Proofs.YtoledgpcgjdjjaaGreatDoor

/- Noise: the bits of one piece, walked. -/
namespace Go.Proofs.YtoledgpcgjdjjaaGreatDoor
open Go.RowKit
attribute [local go_sem] Oper.semAt_some

abbrev NF : Fence := { fn := fun _ => True }

set_option maxRecDepth 100000 in
set_option maxHeartbeats 800000 in
theorem piece_in (n : Nat) (seed pc : Int) (most g o len cap N h : Nat) (f : Nat → Nat) (w : World) (hm1 : 1 ≤ most) (hm2 : most ≤ 64) (hl1 : 1 ≤ len) (hl2 : len ≤ 2048) (hN : o + len ≤ N) (hN2 : N ≤ 4096) (hh : h < 18446744073709551616)
    (hrow : ByteRow w g N 5 f) (hf : ∀ j, f j < 256) :
    CallsIn NF n Tryz.prog 166 #[.agg #[.int .u64 seed, .int .i64 (most : Int), .int .i64 pc], .slice (some ⟨g, o, none⟩) len cap, .int .u64 (h : Int)] w fun e w' => e = .returned (.tuple #[]) ∧ ByteRow w' g N 5 (pieceT most o len h f) ∧ Upd (oneBlock g) w w' := by
  have HH := Lib.hid hh
  have HR := Lib.hid hrow
  have HFF := Lib.hid hf
  clear hh hrow hf
  refine callsIn_of_wp Tryz.func166 rfl trivial ?_ rfl
  simp only [Tryz.ntmps166, List.size_toArray, List.length_cons, List.length_nil, Nat.reduceAdd, Nat.reduceSub, Array.replicate_succ, Array.replicate_zero, List.push_toArray, List.append_toArray, List.nil_append, List.cons_append]
  obtain ⟨t, ht⟩ : ∃ t, t = drawnN h most := ⟨_, rfl⟩
  have ht64 : t < 64 := by have : drawnN h most < most := Nat.mod_lt _ (by omega); omega
  have HT := Lib.hid ht
  clear ht
  have HD : Hid (∀ (n' : Nat) (w' : World), CallsIn NF n' Tryz.prog 207 #[.int .u64 (h : Int), .int .i64 (most : Int)] w' fun e w2 => e = .returned (.int .i64 (t : Int)) ∧ w' = w2) := Lib.hid (fun n' w' => by rw [HT.out]; exact drawn_in NF n' trivial rfl h most w' HH.out (by omega) (by omega))
  gi_wp2_with (gi_at_call 207; ((with_reducible refine (HD.out _ _).mono ?_); rintro e w' ⟨rfl, rfl⟩))
  gi_loopw [2, 12] (fun hv i wr => ∃ k : Nat, k ≤ t + 1 ∧ hv = .int .u64 ((stepsH k h : Nat) : Int) ∧ i = .int .i64 (k : Int) ∧ Hid (ByteRow wr g N 5 (turnsN o len k h f)) ∧ Hid (Upd (oneBlock g) w wr)) (fun _ i _ => t + 1 - (intOf i).toNat)
  case atStart => exact ⟨0, Nat.zero_le _, rfl, rfl, Lib.hid (HR.out.grow ((Upd.refl noBlock w).alloc _)), Lib.hid ((Upd.refl (oneBlock g) w).alloc _)⟩
  case round =>
    obtain ⟨k, hk, rfl, rfl, hR, hU⟩ := hrel
    obtain ⟨x, hx⟩ : ∃ x, x = stepsH k h := ⟨_, rfl⟩
    rw [← hx]
    have HX := Lib.hid hx
    clear hx
    by_cases hlt : k < t + 1
    · have hd1 : decide ((k : Int) < (t : Int) + 1) = true := decide_eq_true (by omega)
      obtain ⟨y, hy⟩ : ∃ y, y = stepH x := ⟨_, rfl⟩
      have hst : IntKind.u64.wrap (IntKind.u64.wrap ((x : Int) * 6364136223846793005) + 1442695040888963407) = (y : Int) := by
        rw [hy, stepH, IntKind.wrap_u64, IntKind.wrap_u64]; omega
      have hylt : Hid (y < 18446744073709551616) := Lib.hid (by rw [hy]; exact stepH_lt x)
      obtain ⟨bt, hbt⟩ : ∃ bt, bt = drawnN y (8 * len) := ⟨_, rfl⟩
      have HBT := Lib.hid hbt
      have hbt2 : bt < 8 * len := by rw [hbt, drawnN]; exact Nat.mod_lt _ (by omega)
      have HD2 : Hid (∀ (n' : Nat) (w' : World), CallsIn NF n' Tryz.prog 207 #[.int .u64 (y : Int), .int .i64 (8 * (len : Int))] w' fun e w2 => e = .returned (.int .i64 (bt : Int)) ∧ w' = w2) := Lib.hid (fun n' w' => by
        have := drawn_in NF n' trivial rfl y (8 * len) w' hylt.out (by omega) (by omega)
        rw [hbt]; exact this)
      have HY := Lib.hid hy
      clear hy hbt
      obtain ⟨q, hq⟩ : ∃ q, q = bt / 8 := ⟨_, rfl⟩
      obtain ⟨sh, hsh⟩ : ∃ sh, sh = bt % 8 := ⟨_, rfl⟩
      have hq1 : (bt : Int) / 8 = (q : Int) := by omega
      have hs1 : (bt : Int) % 8 = (sh : Int) := by omega
      have hq2 : q < len := by omega
      have hs2 : sh < 8 := by omega
      obtain ⟨v, hv⟩ : ∃ v, v = turnsN o len k h f (o + q) := ⟨_, rfl⟩
      have hv2 : v < 256 := by rw [hv]; exact turns_lt o len k h f HFF.out _
      have cv : wr.cell? ⟨g, o + q, none⟩ = some (.int .u8 (v : Int)) := by rw [hv]; exact hR.out.cell _ (by omega)
      have fv : wr.frozen? ⟨g, o + q, none⟩ = false := hR.out.free _ (by omega)
      have HV := Lib.hid hv
      have HQ := Lib.hid hq
      have HSH := Lib.hid hsh
      clear hv hq hsh
      gi_wp2_with (gi_at_call 207; ((with_reducible refine (HD2.out _ _).mono ?_); rintro e w' ⟨rfl, rfl⟩))
      gi_region
      all_goals gi_wp2
      have hp : ((2 : Int) ^ sh % 256) = ((2 ^ sh : Nat) : Int) := by
        have h1 : (2 : Int) ^ sh = ((2 ^ sh : Nat) : Int) := by rw [Int.natCast_pow]; rfl
        have h2 := pow_shift sh hs2
        rw [h1]
        generalize (2 ^ sh : Nat) = z at h2 ⊢
        omega
      have hx8 : bits .xor .u8 (v : Int) ((2 : Int) ^ sh % 256) = ((v ^^^ 2 ^ sh : Nat) : Int) := by rw [hp]; exact u8_xor_nat v (2 ^ sh) hv2 (pow_shift sh hs2)
      rw [hx8]
      refine ⟨⟨k + 1, by omega, ?_, by go_num, Lib.hid ?_, Lib.hid ((hU.out.setCell (p := ⟨g, o + q, none⟩) (.inl rfl) _).drew)⟩, ?_⟩
      · rw [HY.out, HX.out, stepsH_succ]
      · refine (hR.out.set (o + q) (v ^^^ 2 ^ sh)).congr (fun j _ => ?_)
        rw [turns_succ, stepsH_succ, ← HX.out, ← HY.out, ← HBT.out, turnBit, ← HQ.out, ← HSH.out]
        by_cases e : j = o + q
        · subst e; rw [if_pos rfl, if_pos rfl, HV.out]
        · rw [if_neg e, if_neg e]
      · simp [intOf]; omega
    · have hd1 : decide ((k : Int) < (t : Int) + 1) = false := decide_eq_false (by omega)
      gi_wp2
      go_end0
      have hkt : k = t + 1 := by omega
      refine ⟨rfl, ?_, hU.out⟩
      have := hR.out
      rw [hkt, HT.out] at this
      exact this
end Go.Proofs.YtoledgpcgjdjjaaGreatDoor

/- slices.Chunk over bytes: what it hands to a loop's body. -/
namespace Go.Proofs.YtoledgpcgjdjjaaGreatDoor
open Go.RowKit
attribute [local go_sem] Oper.semAt_some

def pidx (L pc k : Nat) : Nat := if k * pc < L then k else 0
def pieceV (g L pc k : Nat) : Value := .slice (some ⟨g, pidx L pc k * pc, none⟩) (min pc (L - pidx L pc k * pc)) (min pc (L - pidx L pc k * pc))
def KpBox (Bs Bn : Nat) (A B : World) : Prop := B.heap[Bs]? = A.heap[Bs]? ∧ B.heap[Bn]? = A.heap[Bn]?
theorem KpBox.trans {Bs Bn : Nat} {A B C : World} (h : KpBox Bs Bn A B) (k : KpBox Bs Bn B C) : KpBox Bs Bn A C := ⟨k.1.trans h.1, k.2.trans h.2⟩
theorem range_succ' (k : Nat) : List.range (k + 1) = List.range k ++ [k] := List.range_succ
def pieces (L pc : Nat) : Nat := (L + pc - 1) / pc
theorem pieces_lt {L pc k : Nat} (hp : 1 ≤ pc) : k < pieces L pc ↔ k * pc < L := by
  unfold pieces
  rw [Nat.lt_div_iff_mul_lt (by omega)]
  omega

set_option maxRecDepth 100000 in
set_option maxHeartbeats 2000000 in
theorem chunk1_in (n : Nat) (hn : 1 ≤ n) (l Bs Bn g L cap pc : Nat) (hL : L ≤ 4096) (hLc : L ≤ cap) (hp : 1 ≤ pc) (hp2 : Hid (pc ≤ 9223372036854775807)) (J Jx : List Nat → World → Prop) (hJd : ∀ pre W, J pre W → J pre W.drew)
    (hY : ∀ pre x W, J pre W → pre.length < pieces L pc → YieldAt NF (n - 1) Tryz.prog l #[pieceV g L pc x] W fun e W' =>
      (e = .returned (.bool true) ∧ J (pre ++ [x]) W' ∧ KpBox Bs Bn W W') ∨ (e = .returned (.bool false) ∧ Jx (pre ++ [x]) W'))
    (W : World) (hBs : W.cell? ⟨Bs, 0, none⟩ = some (.slice (some ⟨g, 0, none⟩) L cap)) (hBn : W.cell? ⟨Bn, 0, none⟩ = some (.int .i64 (pc : Int))) (h0 : J [] W) :
    CallsIn NF n Tryz.prog 206 #[.func (.yield l) #[] #[], .pointer (some ⟨Bs, 0, none⟩), .pointer (some ⟨Bn, 0, none⟩)] W fun e W' => (∃ v, e = .returned v) ∧
      ((∃ ys, ys = List.range (pieces L pc) ∧ J ys W') ∨ (∃ pre, True ∧ Jx pre W')) := by
  refine callsIn_of_wp Tryz.func206 rfl trivial ?_ rfl
  simp only [Tryz.ntmps206, List.size_toArray, List.length_cons, List.length_nil, Nat.reduceAdd, Nat.reduceSub, Array.replicate_succ, Array.replicate_zero, List.push_toArray, List.append_toArray, List.nil_append, List.cons_append]
  have HBs := Lib.hid hBs
  have HBn := Lib.hid hBn
  clear hBs hBn
  gi_wp2
  gi_loopw [4, 5] (fun iv _ wr => ∃ (k i : Nat), Hid (i = k * pc ∧ (i < L + pc)) ∧ iv = .int .i64 (i : Int) ∧ Hid (k ≤ pieces L pc) ∧ J (List.range k) wr ∧ Hid (KpBox Bs Bn W wr)) (fun iv _ _ => L + 1 - (intOf iv).toNat)
  case atStart => exact ⟨0, 0, Lib.hid ⟨by omega, by omega⟩, rfl, Lib.hid (Nat.zero_le _), h0, Lib.hid ⟨rfl, rfl⟩⟩
  case round =>
    obtain ⟨k, i, hi, rfl, hk, hJs, hKp⟩ := hrel
    have cs : wr.cell? ⟨Bs, 0, none⟩ = some (.slice (some ⟨g, 0, none⟩) L cap) := (World.cell?_of_block (a := ⟨Bs, 0, none⟩) hKp.out.1).trans HBs.out
    have cn : wr.cell? ⟨Bn, 0, none⟩ = some (.int .i64 (pc : Int)) := (World.cell?_of_block (a := ⟨Bn, 0, none⟩) hKp.out.2).trans HBn.out
    by_cases hlt : i < L
    · obtain ⟨m, hm⟩ : ∃ m, m = min pc (L - i) := ⟨_, rfl⟩
      have hkl : k < pieces L pc := (pieces_lt hp).2 (by rw [← hi.out.1]; exact hlt)
      obtain ⟨fn, tmps, assign, body, hy, hR⟩ := hY _ k wr.drew (hJd _ _ hJs) (by rw [List.length_range]; exact hkl)
      have hpv : pieceV g L pc k = .slice (some ⟨g, i, none⟩) m m := by unfold pieceV pidx; rw [← hi.out.1, if_pos hlt, ← hi.out.1, ← hm]
      rw [hpv] at hy
      have hmin : min (pc : Int) ((L - i : Nat) : Int) = (m : Int) := by omega
      have hm1 : 1 ≤ m := by omega
      have hm2 : i + m ≤ L := by omega
      have hci : decide (cap = i) = false := decide_eq_false (by omega)
      have HM := Lib.hid hm
      clear hm hpv
      gi_wp2
      gi_region
      all_goals gi_wp2
      refine hR.mono ?_
      rintro e W3 (⟨rfl, hJ3, hk3⟩ | ⟨rfl, hJx3⟩)
      · have cn3 : W3.cell? ⟨Bn, 0, none⟩ = some (.int .i64 (pc : Int)) := (World.cell?_of_block (a := ⟨Bn, 0, none⟩) hk3.2).trans cn
        have hw : IntKind.i64.wrap ((i : Int) + (pc : Int)) = (i : Int) + (pc : Int) := by
          have h1 := hi.out
          have h2 := hp2.out
          rw [IntKind.wrap_i64]
          by_cases e0 : k = 0
          · have : i = 0 := by rw [h1.1, e0, Nat.zero_mul]
            omega
          · have : pc ≤ i := by rw [h1.1]; exact Nat.le_mul_of_pos_left pc (by omega)
            omega
        gi_wp2
        go_roundw
        case rel => exact ⟨k + 1, i + pc, Lib.hid ⟨by rw [hi.out.1, Nat.succ_mul], by omega⟩, by go_num, Lib.hid (by omega), by rw [range_succ']; exact hJ3, Lib.hid (hKp.out.trans hk3)⟩
        case measure => simp [intOf]; omega
      · gi_wp2
        refine bodyPost_ret (results_none rfl _ _ _) rfl ?_
        exact ⟨⟨_, rfl⟩, .inr ⟨_, trivial, hJx3⟩⟩
    · have hd : decide (i < L) = false := decide_eq_false hlt
      have hke : k = pieces L pc := by
        have h1 : ¬ k < pieces L pc := fun h => hlt (by rw [hi.out.1]; exact (pieces_lt hp).1 h)
        have := hk.out
        omega
      gi_wp2
      go_end0
      exact ⟨⟨_, rfl⟩, .inl ⟨_, rfl, by rw [← hke]; exact hJs⟩⟩

theorem grown_drew (W : World) : W.grownBy W.drew none := ⟨rfl, rfl, rfl, Nat.le_refl _, fun _ _ _ => rfl⟩
theorem chunk_stops (n : Nat) (hn : 1 ≤ n) (Bs Bn g L cap pc : Nat) (hL : L ≤ 4096) (hLc : L ≤ cap) (hp : 1 ≤ pc) (hp2 : Hid (pc ≤ 9223372036854775807)) (w : World) (h1 : Bs < w.heap.size) (h2 : Bn < w.heap.size)
    (hBs : w.cell? ⟨Bs, 0, none⟩ = some (.slice (some ⟨g, 0, none⟩) L cap)) (hBn : w.cell? ⟨Bn, 0, none⟩ = some (.int .i64 (pc : Int))) :
    SeqStopsK NF n Tryz.prog 206 #[.pointer (some ⟨Bs, 0, none⟩), .pointer (some ⟨Bn, 0, none⟩)] (fun x : Nat => #[pieceV g L pc x]) (KpBox Bs Bn) (fun ys => ys = List.range (pieces L pc)) (fun _ => True) (pieces L pc) w :=
  fun l J Jx W hW hJ _ hY h0 =>
    chunk1_in n hn l Bs Bn g L cap pc hL hLc hp hp2 J Jx (fun pre W' h => hJ pre W' W'.drew none h (grown_drew W') (fun _ e => by cases e)) hY W ((hW.cell (p := ⟨Bs, 0, none⟩) h1).trans hBs) ((hW.cell (p := ⟨Bn, 0, none⟩) h2).trans hBn) h0
set_option maxRecDepth 100000 in
theorem chunk_in (n : Nat) (a : Option Addr) (L cap pc : Nat) (w : World) (hp : 1 ≤ pc) :
    CallsIn NF n Tryz.prog 165 #[.slice a L cap, .int .i64 (pc : Int)] w fun e w' => e = .returned (.func (.func 206) #[] #[.pointer (some ⟨w.heap.size, 0, none⟩), .pointer (some ⟨w.heap.size + 1, 0, none⟩)]) ∧ w' = (w.alloc (.cells #[.slice a L cap] 105)).alloc (.cells #[.int .i64 (pc : Int)] 3) := by
  have hd : decide ((pc : Int) < 1) = false := decide_eq_false (by omega)
  refine callsIn_of_wp Tryz.func165 rfl trivial ?_ rfl
  simp only [Tryz.ntmps165, List.size_toArray, List.length_cons, List.length_nil, Nat.reduceAdd, Nat.reduceSub, Array.replicate_succ, Array.replicate_zero, List.push_toArray, List.append_toArray, List.nil_append, List.cons_append]
  gi_wp2
  go_ret
  exact ⟨rfl, rfl⟩
end Go.Proofs.YtoledgpcgjdjjaaGreatDoor
