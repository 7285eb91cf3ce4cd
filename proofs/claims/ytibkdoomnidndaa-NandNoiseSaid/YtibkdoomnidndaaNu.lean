/- slices.Chunk over bytes: what it hands to a loop's body. -/
import Derived.Test.YtibkdoomnidndaaNt
namespace Go.Proofs.Ytibkdoomnidndaa
open Go.RowKit
attribute [local go_sem] Oper.semAt_some

/-- the k-th piece of pc bytes of L; the first one where there is none -/
def pidx (L pc k : Nat) : Nat := if k * pc < L then k else 0
def pieceV (g L pc k : Nat) : Value := .slice (some ⟨g, pidx L pc k * pc, none⟩) (min pc (L - pidx L pc k * pc)) (min pc (L - pidx L pc k * pc))
def KpBox (Bs Bn : Nat) (A B : World) : Prop := B.heap[Bs]? = A.heap[Bs]? ∧ B.heap[Bn]? = A.heap[Bn]?
theorem KpBox.trans {Bs Bn : Nat} {A B C : World} (h : KpBox Bs Bn A B) (k : KpBox Bs Bn B C) : KpBox Bs Bn A C := ⟨k.1.trans h.1, k.2.trans h.2⟩
theorem range_succ' (k : Nat) : List.range (k + 1) = List.range k ++ [k] := List.range_succ
/-- the number of pieces -/
def pieces (L pc : Nat) : Nat := (L + pc - 1) / pc
theorem pieces_lt {L pc k : Nat} (hp : 1 ≤ pc) : k < pieces L pc ↔ k * pc < L := by
  unfold pieces
  rw [Nat.lt_div_iff_mul_lt (by omega)]
  omega

set_option maxRecDepth 100000 in
set_option maxHeartbeats 2000000 in
theorem chunk1_in (n : Nat) (hn : 1 ≤ n) (l Bs Bn g L cap pc : Nat) (hL : L ≤ 4096) (hLc : L ≤ cap) (hp : 1 ≤ pc) (hp2 : Hid (pc ≤ 9223372036854775807)) (J Jx : List Nat → World → Prop) (hJd : ∀ pre W, J pre W → J pre W.drew)
    (hY : ∀ pre x W, J pre W → pre.length < pieces L pc → YieldAt NF (n - 1) Try.prog l #[pieceV g L pc x] W fun e W' =>
      (e = .returned (.bool true) ∧ J (pre ++ [x]) W' ∧ KpBox Bs Bn W W') ∨ (e = .returned (.bool false) ∧ Jx (pre ++ [x]) W'))
    (W : World) (hBs : W.cell? ⟨Bs, 0, none⟩ = some (.slice (some ⟨g, 0, none⟩) L cap)) (hBn : W.cell? ⟨Bn, 0, none⟩ = some (.int .i64 (pc : Int))) (h0 : J [] W) :
    CallsIn NF n Try.prog 54 #[.func (.yield l) #[] #[], .pointer (some ⟨Bs, 0, none⟩), .pointer (some ⟨Bn, 0, none⟩)] W fun e W' => (∃ v, e = .returned v) ∧
      ((∃ ys, ys = List.range (pieces L pc) ∧ J ys W') ∨ (∃ pre, True ∧ Jx pre W')) := by
  refine callsIn_of_wp Try.func54 rfl trivial ?_ rfl
  simp only [Try.ntmps54, List.size_toArray, List.length_cons, List.length_nil, Nat.reduceAdd, Nat.reduceSub, Array.replicate_succ, Array.replicate_zero, List.push_toArray, List.append_toArray, List.nil_append, List.cons_append]
  have HBs := Lib.hid hBs
  have HBn := Lib.hid hBn
  clear hBs hBn
  gi_wp2
  gi_loopw [4, 5] (fun iv _ wr => ∃ (k i : Nat), Hid (i = k * pc ∧ (i < L + pc)) ∧ iv = .int .i64 (i : Int) ∧ Hid (k ≤ pieces L pc) ∧ J (List.range k) wr ∧ Hid (KpBox Bs Bn W wr)) (fun iv _ _ => L + 1 - (intOf iv).toNat)
  case atStart => exact ⟨0, 0, Lib.hid ⟨by omega, by omega⟩, rfl, Lib.hid (Nat.zero_le _), h0, Lib.hid ⟨rfl, rfl⟩⟩
  case round =>
    obtain ⟨k, i, hi, rfl, hk, hJs, hKp⟩ := hrel
    have cs : wr.cell? ⟨Bs, 0, none⟩ = some (.slice (some ⟨g, 0, none⟩) L cap) := (World.cell?_of_block (a := ⟨Bs, 0, none⟩) hKp.out.1).trans HBs.out
    have cn : wr.cell? ⟨Bn, 0, none⟩ = some (.int .i64 (pc : Int)) := (World.cell?_of_block (a := ⟨Bn, 0, none⟩) hKp.out.2).trans HBn.out
    by_cases hlt : i < L
    · obtain ⟨m, hm⟩ : ∃ m, m = min pc (L - i) := ⟨_, rfl⟩
      have hkl : k < pieces L pc := (pieces_lt hp).2 (by rw [← hi.out.1]; exact hlt)
      obtain ⟨fn, tmps, assign, body, hy, hR⟩ := hY _ k wr.drew (hJd _ _ hJs) (by rw [List.length_range]; exact hkl)
      have hpv : pieceV g L pc k = .slice (some ⟨g, i, none⟩) m m := by unfold pieceV pidx; rw [← hi.out.1, if_pos hlt, ← hi.out.1, ← hm]
      rw [hpv] at hy
      have hmin : min (pc : Int) ((L - i : Nat) : Int) = (m : Int) := by omega
      have hm1 : 1 ≤ m := by omega
      have hm2 : i + m ≤ L := by omega
      have hci : decide (cap = i) = false := decide_eq_false (by omega)
      have HM := Lib.hid hm
      clear hm hpv
      gi_wp2
      gi_region
      all_goals gi_wp2
      refine hR.mono ?_
      rintro e W3 (⟨rfl, hJ3, hk3⟩ | ⟨rfl, hJx3⟩)
      · have cn3 : W3.cell? ⟨Bn, 0, none⟩ = some (.int .i64 (pc : Int)) := (World.cell?_of_block (a := ⟨Bn, 0, none⟩) hk3.2).trans cn
        have hw : IntKind.i64.wrap ((i : Int) + (pc : Int)) = (i : Int) + (pc : Int) := by
          have h1 := hi.out
          have h2 := hp2.out
          rw [IntKind.wrap_i64]
          by_cases e0 : k = 0
          · have : i = 0 := by rw [h1.1, e0, Nat.zero_mul]
            omega
          · have : pc ≤ i := by rw [h1.1]; exact Nat.le_mul_of_pos_left pc (by omega)
            omega
        gi_wp2
        go_roundw
        case rel => exact ⟨k + 1, i + pc, Lib.hid ⟨by rw [hi.out.1, Nat.succ_mul], by omega⟩, by go_num, Lib.hid (by omega), by rw [range_succ']; exact hJ3, Lib.hid (hKp.out.trans hk3)⟩
        case measure => simp [intOf]; omega
      · gi_wp2
        refine bodyPost_ret (results_none rfl _ _ _) rfl ?_
        exact ⟨⟨_, rfl⟩, .inr ⟨_, trivial, hJx3⟩⟩
    · have hd : decide (i < L) = false := decide_eq_false hlt
      have hke : k = pieces L pc := by
        have h1 : ¬ k < pieces L pc := fun h => hlt (by rw [hi.out.1]; exact (pieces_lt hp).1 h)
        have := hk.out
        omega
      gi_wp2
      go_end0
      exact ⟨⟨_, rfl⟩, .inl ⟨_, rfl, by rw [← hke]; exact hJs⟩⟩

theorem grown_drew (W : World) : W.grownBy W.drew none := ⟨rfl, rfl, rfl, Nat.le_refl _, fun _ _ _ => rfl⟩
theorem chunk_stops (n : Nat) (hn : 1 ≤ n) (Bs Bn g L cap pc : Nat) (hL : L ≤ 4096) (hLc : L ≤ cap) (hp : 1 ≤ pc) (hp2 : Hid (pc ≤ 9223372036854775807)) (w : World) (h1 : Bs < w.heap.size) (h2 : Bn < w.heap.size)
    (hBs : w.cell? ⟨Bs, 0, none⟩ = some (.slice (some ⟨g, 0, none⟩) L cap)) (hBn : w.cell? ⟨Bn, 0, none⟩ = some (.int .i64 (pc : Int))) :
    SeqStopsK NF n Try.prog 54 #[.pointer (some ⟨Bs, 0, none⟩), .pointer (some ⟨Bn, 0, none⟩)] (fun x : Nat => #[pieceV g L pc x]) (KpBox Bs Bn) (fun ys => ys = List.range (pieces L pc)) (fun _ => True) (pieces L pc) w :=
  fun l J Jx W hW hJ _ hY h0 =>
    chunk1_in n hn l Bs Bn g L cap pc hL hLc hp hp2 J Jx (fun pre W' h => hJ pre W' W'.drew none h (grown_drew W') (fun _ e => by cases e)) hY W ((hW.cell (p := ⟨Bs, 0, none⟩) h1).trans hBs) ((hW.cell (p := ⟨Bn, 0, none⟩) h2).trans hBn) h0
set_option maxRecDepth 100000 in
theorem chunk_in (n : Nat) (a : Option Addr) (L cap pc : Nat) (w : World) (hp : 1 ≤ pc) :
    CallsIn NF n Try.prog 50 #[.slice a L cap, .int .i64 (pc : Int)] w fun e w' => e = .returned (.func (.func 54) #[] #[.pointer (some ⟨w.heap.size, 0, none⟩), .pointer (some ⟨w.heap.size + 1, 0, none⟩)]) ∧ w' = (w.alloc (.cells #[.slice a L cap] 35)).alloc (.cells #[.int .i64 (pc : Int)] 3) := by
  have hd : decide ((pc : Int) < 1) = false := decide_eq_false (by omega)
  refine callsIn_of_wp Try.func50 rfl trivial ?_ rfl
  simp only [Try.ntmps50, List.size_toArray, List.length_cons, List.length_nil, Nat.reduceAdd, Nat.reduceSub, Array.replicate_succ, Array.replicate_zero, List.push_toArray, List.append_toArray, List.nil_append, List.cons_append]
  gi_wp2
  go_ret
  exact ⟨rfl, rfl⟩
end Go.Proofs.Ytibkdoomnidndaa
