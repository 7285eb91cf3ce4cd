/- Write. -/
import Derived.Test.YtcfilepilgjlaaaDoorEe
namespace Go.Proofs.YtcfilepilgjlaaaDoor
open Go.RowKit

theorem own_more8 {w : World} {B B' : Nat} {e : TypeId} {n m : Nat} {v : Value} {xs : List Value} (h : w.ownsRow B e n v m xs) (hb : B' ≤ B) : w.ownsRow B' e n v m xs := by
  obtain ⟨hl, h⟩ := h
  refine ⟨hl, ?_⟩
  rcases h with ⟨h1, h2⟩ | ⟨g, cap, cur, rfl, hB, r⟩
  · exact .inl ⟨h1, h2⟩
  · exact .inr ⟨g, cap, cur, rfl, Nat.le_trans hb hB, r⟩
theorem Chs.back {w w1 w2 : World} {nm : Int} {v : Value} {L : List (Int × List UInt8)} (h : Chs w1 w2 nm v L) (hu : Upd noBlock w w1) : Chs w w2 nm v L := ⟨own_more8 h.own hu.size, hu.trans h.up⟩
theorem laid_congr {f : Nat → UInt8} {o n n' : Nat} {s s' : List UInt8} (h : n = n') (hs : s = s') : laid f o s n = laid f o s' n' := by rw [h, hs]

/-- a write that may be -/
def wrOk (o : Int) (d : List UInt8) : Prop := 0 ≤ o ∧ d.length ≤ 256 ∧ o + (d.length : Int) ≤ 8192
instance (o : Int) (d : List UInt8) : Decidable (wrOk o d) := by unfold wrOk; infer_instance
/-- the error's number -/
def wrE (o : Int) (d : List UInt8) : Int := if o < 0 ∨ 256 < d.length then 107 else if o > 8192 - (d.length : Int) then 109 else 0
def wrS (size o : Int) (d : List UInt8) : Int := if wrOk o d then (if d = [] then size else max size (o + (d.length : Int))) else 0
/-- the bytes behind a write, from the first piece on -/
def wrF (o : Int) (d : List UInt8) (Ss : List ByteArray) : Nat → UInt8 := laid (spF Ss) (o % 64).toNat d d.length
def wrL (o : Int) (d : List UInt8) (Ss : List ByteArray) : List (Int × List UInt8) :=
  if wrOk o d ∧ ¬ d = [] then difL (o / 64) (spF Ss) (wrF o d Ss) (pcs (o + (d.length : Int)) - o / 64).toNat else []
set_option maxRecDepth 100000 in
set_option maxHeartbeats 1600000 in
theorem Write_any (nm size o : Int) (d : List UInt8) (a : Option Addr) (n0 c B : Nat) (Ss : List ByteArray) (w : World) (hr : Strs w B a n0 Ss) (hB : B ≤ w.heap.size) (hn : n0 ≤ c) (hd : d.length ≤ 9223372036854775807) :
    Calls Tryd.prog 8 #[.int .i64 nm, .int .i64 size, .int .i64 o, .string ⟨d.toArray⟩, .slice a n0 c] w fun e w' => ∃ v, e = .returned (.tuple #[v, .int .i64 (wrS size o d), .int .i64 (wrE o d)]) ∧ Chs w w' nm v (wrL o d Ss) := by
  obtain ⟨q, hq⟩ : ∃ q : ByteArray, ⟨d.toArray⟩ = q := ⟨_, rfl⟩
  have hsz : q.size = d.length := by rw [← hq]; rfl
  have hdl : q.data.toList = d := by rw [← hq]
  rw [hq]
  clear hq
  by_cases b1 : o < 0
  · have e1 : wrS size o d = 0 := if_neg (fun h => by have := h.1; omega)
    have e2 : wrE o d = 107 := if_pos (.inl b1)
    have e3 : wrL o d Ss = [] := if_neg (fun h => by have := h.1.1; omega)
    rw [e1, e2, e3]
    clear e1 e2 e3 hr
    go_enter Tryd.func8, Tryd.ntmps8
    go_wp2
    go_ret3
    exact ⟨_, rfl, Chs.nil w nm⟩
  · by_cases b2 : 256 < d.length
    · have e1 : wrS size o d = 0 := if_neg (fun h => by have := h.2.1; omega)
      have e2 : wrE o d = 107 := if_pos (.inr b2)
      have e3 : wrL o d Ss = [] := if_neg (fun h => by have := h.1.2.1; omega)
      rw [e1, e2, e3]
      rw [← hsz] at b2
      have hd' : q.size ≤ 9223372036854775807 := by omega
      clear e1 e2 e3 hr
      go_enter Tryd.func8, Tryd.ntmps8
      go_wp2
      go_ret3
      exact ⟨_, rfl, Chs.nil w nm⟩
    · by_cases b3 : o > 8192 - (d.length : Int)
      · have e1 : wrS size o d = 0 := if_neg (fun h => by have := h.2.2; omega)
        have e2 : wrE o d = 109 := by unfold wrE; rw [if_neg (by omega), if_pos b3]
        have e3 : wrL o d Ss = [] := if_neg (fun h => by have := h.1.2.2; omega)
        rw [e1, e2, e3]
        rw [← hsz] at b2 b3
        have b4 : ¬ (256 : Int) < (q.size : Int) := by omega
        clear e1 e2 e3 hr
        go_enter Tryd.func8, Tryd.ntmps8
        go_wp2
        go_ret3
        exact ⟨_, rfl, Chs.nil w nm⟩
      · have hok : wrOk o d := ⟨by omega, by omega, by omega⟩
        have e2 : wrE o d = 0 := by unfold wrE; rw [if_neg (by omega), if_neg b3]
        by_cases b5 : d = []
        · have e1 : wrS size o d = size := by unfold wrS; rw [if_pos hok, if_pos b5]
          have e3 : wrL o d Ss = [] := if_neg (fun h => h.2 b5)
          rw [e1, e2, e3]
          have hz : q.size = 0 := by rw [hsz, b5]; rfl
          have hqe : q = ⟨#[]⟩ := by apply ByteArray.ext; apply Array.ext'; rw [hdl, b5]
          subst hqe
          have hz2 : (⟨#[]⟩ : ByteArray).size = 0 := rfl
          have b6 : ¬ 8192 < o := by rw [b5] at b3; simp at b3; omega
          clear e1 e2 e3 hr hdl hz hsz hok b3 b2
          go_enter Tryd.func8, Tryd.ntmps8
          go_wp2
          go_ret3
          exact ⟨_, rfl, Chs.nil w nm⟩
        · have hlen : 0 < d.length := List.length_pos_iff.2 b5
          obtain ⟨F, hF⟩ : ∃ F, o / 64 = F := ⟨_, rfl⟩
          obtain ⟨Pn, hP⟩ : ∃ Pn, pcs (o + (d.length : Int)) = Pn := ⟨_, rfl⟩
          have hP' := pcs_eq (o + (d.length : Int))
          obtain ⟨M, hM⟩ : ∃ M, (Pn - F).toNat = M := ⟨_, rfl⟩
          obtain ⟨r, hr'⟩ : ∃ r, (o % 64).toNat = r := ⟨_, rfl⟩
          have e1 : wrS size o d = max size (o + (d.length : Int)) := by unfold wrS; rw [if_pos hok, if_neg b5]
          have e3 : wrL o d Ss = difL F (spF Ss) (laid (spF Ss) r d d.length) M := by unfold wrL wrF; rw [if_pos ⟨hok, b5⟩, hF, hP, hM, hr']
          have hPM : Pn - F = (M : Int) := by omega
          have hrm : o.tmod 64 = (r : Int) := by rw [Int.tmod_eq_emod_of_nonneg (by omega)]; omega
          have hM1 : 1 ≤ M := by omega
          have hM2 : M ≤ 6 := by omega
          have hrN : r + d.length ≤ M * 64 := by omega
          have hF0 : 0 ≤ F := by omega
          have hF1 : F ≤ 200 := by omega
          have hPn : 0 ≤ Pn := by omega
          have hPn1 : Pn ≤ 200 := by omega
          have hsp : spanA o (q.size : Int) = (F, Pn) := by
            unfold spanA; rw [if_pos ⟨by omega, by omega, by omega, by omega⟩, hsz, hF, hP]
          have HSP := Lib.hid (Span_any o (q.size : Int) w)
          rw [hsp] at HSP
          have hqe : ¬ q.toList.isEmpty = true := by rw [Lib.toList_data, hdl]; simpa using b5
          have hqe2 : q.toList.isEmpty = false := by simpa using hqe
          have HS := Lib.hid (spread_any a n0 c B M Ss w hr hB hn hM1 (by omega))
          have HL : Hid (∀ N, N = M * 64 → min q.size (N - r) = d.length ∧ q.data.toList.take (min q.size (N - r)) = d) := fun N hN => by
            have : min q.size (N - r) = d.length := by omega
            exact ⟨this, by rw [this, hdl]; exact List.take_length⟩
          rw [e1, e2, e3]
          rw [← hsz] at hrN hlen b2 b3 ⊢
          have b7 : ¬ (256 : Int) < (q.size : Int) := by omega
          have hof : o ≤ 8192 := by omega
          obtain ⟨N, hN⟩ : ∃ N, M * 64 = N := ⟨_, rfl⟩
          have hL := HL.out N hN.symm
          have HL := Lib.hid hL
          rw [hsz] at HL
          rw [← hsz] at HL
          rw [hN] at hrN HS
          have HD := Lib.hid (fun g1 c1 g2 c2 f1 f2 W (k1 : R8 W g1 N f1) (k2 : R8 W g2 N f2) (l1 : N ≤ c1) (l2 : N ≤ c2) => (by
            rw [← hN] at k1 k2 l1 l2 ⊢
            exact differences_any nm F g1 c1 g2 c2 M f1 f2 W k1 k2 l1 l2 (by omega) hF0 (by omega) : Calls Tryd.prog 17 #[.int .i64 nm, .int .i64 F, .slice (some ⟨g1, 0, none⟩) N c1, .slice (some ⟨g2, 0, none⟩) N c2] W fun e w' => ∃ v, e = .returned v ∧ Chs W w' nm v (difL F f1 f2 M)))
          have hN0 : 0 < N := by omega
          have hN1 : N ≤ 384 := by omega
          clear e1 e2 e3 hr hdl hsp hqe hP' hP hM hr' hok hF b5 hsz hd hL hN
          go_enter Tryd.func8, Tryd.ntmps8
          go_wp2_with (first
            | (go_at_call 10; (with_reducible refine HSP.out.mono ?_); rintro e w1 ⟨rfl, h1⟩; obtain rfl := h1)
            | (go_at_call 15; (with_reducible refine HS.out.mono ?_); rintro e w2 ⟨g1, rfl, hg1, r1, u1⟩; have HCL := Lib.hid (Clone_any g1 N N _ w2 r1 hN0 (by omega)); have R1 := Lib.hid r1; have U1 := Lib.hid u1; clear r1 u1)
            | (go_at_call 16; (with_reducible refine HCL.out.mono ?_); rintro e w3 ⟨g3, c3, rfl, hc3, hc3m, hg3, r3, u3⟩; have hslo := fun w' => slice8lo w' g3 0 N c3 r (o.tmod 64) hrm (by omega) (by omega); (obtain ⟨w4, hrun, r4, u4⟩ := r3.copyS r (N - r) (c3 - r) q 3 (by have := HL.out.1; omega)); rw [HL.out.1] at hrun; rw [HL.out.2, HL.out.1] at r4; have R4 := Lib.hid r4; have R5 := Lib.hid ((R1.out.grow u3).upd u4 (fun e => by have := R1.out.lt; unfold oneBlock at e; omega)); have U4 := Lib.hid (U1.out.trans (u3.step u4 (fun i hi e => by unfold oneBlock at e; omega))); have HDD := Lib.hid (HD.out g1 N g3 c3 _ _ w4 R5.out R4.out (Nat.le_refl _) hc3); clear r3 u3 r4 u4)
            | (go_at_call 17; (with_reducible refine HDD.out.mono ?_); rintro e w5 ⟨v5, rfl, k5⟩; have K5 := Lib.hid (k5.back U4.out); clear k5))
          go_ret3
          exact ⟨v5, rfl, K5.out⟩
end Go.Proofs.YtcfilepilgjlaaaDoor
