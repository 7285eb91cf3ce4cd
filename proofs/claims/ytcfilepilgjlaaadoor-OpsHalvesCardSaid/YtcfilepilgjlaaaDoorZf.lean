/- The document's Unpack. -/
import Derived.Test.YtcfilepilgjlaaaDoorZe
import Derived.Deep.CutRange
import Derived.BigQuiet
import Derived.DataShut
namespace Go.Proofs.YtcfilepilgjlaaaDoor
open Go.RowKit

theorem q_at {q : ByteArray} {L : List UInt8} (hq : q = ⟨L.toArray⟩) (n : Nat) (c : UInt8) (hc : L[n]? = some c) : ∀ h : n < q.size, (q[n]'h).toNat = c.toNat := by
  subst hq
  intro h
  exact at_str L n c hc h
theorem drop_cons (r : List UInt8) (j : Nat) (h : j < r.length) : r.drop j = r[j] :: r.drop (j + 1) := List.drop_eq_getElem_cons h
theorem dup_last (t : List UInt8) (fr k : Nat) (hf : fr < t.length) : ∃ y : UInt8, (dup t fr k)[fr + k]? = some y ∧ dup t fr (k + 1) = dup t fr k ++ [y] := by
  have hl := dup_length t fr k
  have hlt : fr + k < (dup t fr k).length := by omega
  refine ⟨(dup t fr k)[fr + k], List.getElem?_eq_getElem hlt, ?_⟩
  rw [dup, List.getD_eq_getElem?_getD, List.getElem?_eq_getElem hlt]; rfl

theorem OwnB.own {w : World} {B : Nat} {v : Value} {l : List UInt8} (h : OwnB w B v l) (k : Nat) (hk : v.ownBlock = some k) : B ≤ k := by
  rcases h.2 with ⟨h1, _⟩ | ⟨g, cap, cur, h1, hB, _⟩
  · rw [h1] at hk; cases hk
  · rw [h1] at hk; cases hk; exact hB

theorem ar3 {m t nn : Nat} (h : m < t + nn) : (m : Int) < (t : Int) + (nn + 125) - 125 := by omega
theorem ar3n {m t nn : Nat} (h : ¬ m < t + nn) : ¬ (m : Int) < (t : Int) + (nn + 125) - 125 := by omega
theorem arB1 {x j r : Nat} (_ : x + (j + 3) = r) : (0 : Int) ≤ (j : Int) + 1 + 1 := by omega
theorem arB2 {x j r : Nat} (_ : x + (j + 3) = r) : (j : Int) + 1 < (r : Int) := by omega
theorem arB3 {x j r : Nat} (_ : x + (j + 3) = r) : (0 : Int) ≤ (j : Int) + 1 + 1 + 1 := by omega
theorem arB4 {x j r : Nat} (_ : x + (j + 3) = r) : (j : Int) + 1 + 1 < (r : Int) := by omega
theorem wrap64_byte (n : Nat) (h : n < 256) : wrap64 (n : Int) = (n : Int) := by unfold wrap64; omega

set_option maxRecDepth 20000 in
set_option maxHeartbeats 1600000 in
theorem refUnpack_tok (r : List UInt8) (most : Int) (m : Nat) (hm : (min (max most 0) 65536).toNat = m) (w : World) (hs : r.length + 1 ≤ maxLen) :
    Calls Tryd.prog 23 #[.string ⟨(1 :: r).toArray⟩, .int .i64 most] w fun e w' => e = .returned (.tuple #[.string ⟨(unp r.length r [] m).1.toArray⟩, .int .i64 (unp r.length r [] m).2]) ∧ Upd noBlock w w' := by
  obtain ⟨i0, hi0, hz0, hz1, hz2⟩ := info_parts byteInfoB
  obtain ⟨R, hR⟩ : ∃ R, unp r.length r [] m = R := ⟨_, rfl⟩
  rw [hR]
  obtain ⟨q, hq⟩ : ∃ q : ByteArray, ⟨(1 :: r).toArray⟩ = q := ⟨_, rfl⟩
  rw [hq]
  have hsz : q.size = r.length + 1 := by rw [← hq]; rfl
  have hqa : ∀ (n : Nat) (c : UInt8) (hc : (1 :: r)[n]? = some c), ∀ h : n < q.size, (q[n]'h).toNat = c.toNat := fun n c hc => q_at hq.symm n c hc
  have hq0 : ∀ h : 0 < q.size, (q[0]'h).toNat = 1 := fun h => by subst hq; rfl
  have hlz : ((r.length : Int) + 1 == 0) = false := by simp; omega
  have HQA := Lib.hid hqa
  have HR := Lib.hid hR
  have HM := Lib.hid hm
  have hml := hs
  unfold maxLen at hml
  have HS := Lib.hid hs
  have hm2 : m ≤ 65536 := by omega
  clear hqa hR hm hq hs
  go_enter Tryd.func23, Tryd.ntmps23
  go_upto_if 14 with fail
  go_cut [1] from 13 to 126 (fun v wx => v = .int .i64 (min most 65536) ∧ wx = w)
  case first =>
    by_cases h1 : most > 65536
    · go_wp2_with fail
      go_meet
      exact ⟨by rw [show min most 65536 = 65536 by omega], rfl⟩
    · go_wp2_with fail
      go_meet
      exact ⟨by rw [show min most 65536 = most by omega], rfl⟩
  case rest =>
    obtain ⟨rfl, rfl⟩ := hcut
    go_upto_if 16 with fail
    go_cut [1] from 13 to 126 (fun v wx => v = .int .i64 (m : Int) ∧ wx = wc)
    case first =>
      have hm3 := HM.out
      generalize hmm : min most 65536 = mm at *
      by_cases h1 : mm < 0
      · go_wp2_with fail
        go_meet
        exact ⟨by rw [show (m : Int) = 0 by omega], rfl⟩
      · go_wp2_with fail
        go_meet
        exact ⟨by rw [show (m : Int) = mm by omega], rfl⟩
    case rest =>
      obtain ⟨rfl, hwx⟩ := hcut
      subst hwx
      obtain ⟨wb, rfl⟩ : ∃ wb : World, wb = wc := ⟨_, rfl⟩
      have H0 : Hid (unp r.length r [] m = R) := HR.out
      clear HR
      go_wp2_with fail
      go_loopw [6, 7] (fun v i wr => ∃ (j : Nat) (t : List UInt8), i = .int .i64 ((j + 1 : Nat) : Int) ∧ j ≤ r.length ∧ j ≤ 2 * t.length ∧ t.length ≤ m ∧ Hid (unp (r.drop j).length (r.drop j) t m = R) ∧ Hid (OwnB wr wb.heap.size v t) ∧ Hid (Upd noBlock wb wr)) (fun _ i _ => r.length + 1 - (intOfZ i).toNat)
      case atStart => exact ⟨0, [], rfl, Nat.zero_le _, Nat.zero_le _, Nat.zero_le _, H0.out, OwnB.nil _ _, Upd.refl _ _⟩
      case round =>
        obtain ⟨j, t, rfl, hj, hj2, ht, HUN, HO, HU⟩ := hrel
        have hj3 : j ≤ 131072 := by omega
        by_cases hend : j < r.length
        · obtain ⟨c, hcr⟩ : ∃ c, r[j] = c := ⟨_, rfl⟩
          have hqc := HQA.out (j + 1) c (by rw [List.getElem?_cons_succ, List.getElem?_eq_getElem hend, hcr])
          obtain ⟨cn, hcn⟩ : ∃ cn, c.toNat = cn := ⟨_, rfl⟩
          rw [hcn] at hqc
          have hc256 : cn < 256 := by rw [← hcn]; exact c.toNat_lt
          have ht2 : t.length ≤ 65536 := by omega
          obtain ⟨a0, c0, hv0⟩ := HO.out.slice
          obtain ⟨rest, hrest⟩ : ∃ rest, r.drop (j + 1) = rest := ⟨_, rfl⟩
          have hrl : rest.length + (j + 1) = r.length := by rw [← hrest, List.length_drop]; omega
          have hra : ∀ k y, rest[k]? = some y → (1 :: r)[j + 1 + 1 + k]? = some y := fun k y h => by
            rw [← hrest, List.getElem?_drop] at h
            rw [show j + 1 + 1 + k = (j + 1 + k) + 1 by omega, List.getElem?_cons_succ]; exact h
          have HRA := Lib.hid hra
          rw [drop_cons r j hend, hcr, hrest] at HUN
          have HHR := Lib.hid hrest
          clear hra hrest
          subst hv0
          by_cases hc : cn < 128
          · by_cases hr : rest.length < cn + 1
            · have hd1 : (r.length : Int) + 1 < (j : Int) + 1 + 1 + cn + 1 := by omega
              have hR4 : R = ([], 4) := by rw [← HUN.out]; exact unp_lit_short c rest t m (by omega) (by omega)
              subst hR4
              clear HUN HHR HRA HQA H0
              go_wp2_with fail
              go_ret2
              exact ⟨rfl, HU.out⟩
            · have hd1 : ¬ (r.length : Int) + 1 < (j : Int) + 1 + 1 + cn + 1 := by omega
              by_cases hm3 : m < t.length + (cn + 1)
              · have hd2 : (m : Int) < (t.length : Int) + cn + 1 := by omega
                have hR4 : R = ([], 2) := by rw [← HUN.out]; exact unp_lit_long c rest t m (by omega) (by omega) (by omega)
                subst hR4
                clear HUN HHR HRA HQA H0
                go_wp2_with fail
                go_ret2
                exact ⟨rfl, HU.out⟩
              · have hd2 : ¬ (m : Int) < (t.length : Int) + cn + 1 := by omega
                have e9 := unp_step_lit c rest t m (by omega) (by omega) (by omega)
                rw [hcn] at e9
                have HR5 : Hid (unp (r.drop (j + 1 + (cn + 1))).length (r.drop (j + 1 + (cn + 1))) (t ++ rest.take (cn + 1)) m = R) := by
                  show _ = _
                  rw [← HUN.out, ← List.drop_drop, HHR.out]; exact e9.symm
                have HL9 : Hid ((t ++ rest.take (cn + 1)).length = t.length + (cn + 1)) := by show _ = _; rw [List.length_append, List.length_take]; omega
                clear e9 HUN HHR H0
                go_wp2_with fail
                go_loopw [6, 9] (fun v i wl => ∃ k : Nat, i = .int .i64 (k : Int) ∧ k ≤ cn + 1 ∧ Hid (OwnB wl wb.heap.size v (t ++ rest.take k)) ∧ Hid (Upd noBlock wb wl)) (fun _ i _ => cn + 1 - (intOfZ i).toNat)
                case atStart => exact ⟨0, rfl, Nat.zero_le _, by rw [List.take_zero, List.append_nil]; exact HO, HU⟩
                case round =>
                  clear HO HU
                  obtain ⟨k, rfl, hk, HO, HU⟩ := hrel
                  obtain ⟨wl, rfl⟩ : ∃ wl : World, wl = wr := ⟨_, rfl⟩
                  by_cases h0 : k < cn + 1
                  · obtain ⟨y, hy⟩ : ∃ y, rest[k]? = some y := ⟨_, List.getElem?_eq_getElem (by omega)⟩
                    have hqy := HQA.out (j + 1 + 1 + k) y (HRA.out k y hy)
                    have hl : (t ++ rest.take k).length = t.length + k := by rw [List.length_append, List.length_take]; omega
                    have HY : Hid (t ++ rest.take (k + 1) = (t ++ rest.take k) ++ [y]) := by
                      show _ = _
                      rw [List.append_assoc, List.take_add_one, hy]; rfl
                    obtain ⟨a1, c1, hv1⟩ := HO.out.slice
                    subst hv1
                    have HSrc : ∀ W : World, Hid (Src Tryd.prog 1 37 (.slice (some ⟨W.heap.size, 0, none⟩) 1 1) 1 (bc [y]) (W.alloc (.cells #[.int .u8 (y.toNat : Int)] 5))) := fun W =>
                      Src.ofSlice _ Tryd.underlying37 _ 1 1 _ rfl (cell_one_new W _ _) (bc_one _)
                    have HOA : Hid ((wl.alloc (.cells #[.int .u8 (y.toNat : Int)] 5)).ownsRow wb.heap.size 5 1 (.slice a1 (t ++ rest.take k).length c1) (t ++ rest.take k).length (bc (t ++ rest.take k))) := HO.out.grow ((Upd.refl _ _).alloc _)
                    have HSA : Hid (wb.heap.size ≤ (wl.alloc (.cells #[.int .u8 (y.toNat : Int)] 5)).heap.size) := by show _ ≤ _; have := HU.out.size; rw [World.size_alloc]; omega
                    have HMX : Hid ((t ++ rest.take k).length + 1 ≤ maxLen ∧ ((t ++ rest.take k).length + 1) * 1 ≤ 140737488355328) := by show _ ∧ _; unfold maxLen; omega
                    have HE : Hid (∀ v' W', W'.ownsRow wb.heap.size 5 1 v' ((t ++ rest.take k).length + 1) (bc (t ++ rest.take k) ++ bc [y]) → OwnB W' wb.heap.size v' (t ++ rest.take (k + 1))) := fun v' W' h => by rw [HY.out]; exact OwnB.join rfl rfl h
                    have HUA : Hid (∀ (row : Option Nat) (W' : World), (wl.alloc (.cells #[.int .u8 (y.toNat : Int)] 5)).grownBy W' row → (row = (Value.slice a1 (t ++ rest.take k).length c1).ownBlock) → (wb.heap.size ≤ W'.heap.size ∧ Upd noBlock wb W')) := fun row W' hgr hrow => ⟨Nat.le_trans HSA.out hgr.size, upd_of_grown (HU.out.alloc _) hgr (fun k' hk' => .inr (by
                      rw [hrow] at hk'; exact HO.out.own _ hk'))⟩
                    have hb1 : (j : Int) + 1 + 1 + k < (r.length : Int) + 1 := by omega
                    have hb2 : (k : Int) ≤ (cn : Int) := by omega
                    rw [hl] at HOA HMX HE HUA
                    rw [hl]
                    clear hl hy HY HU HO HRA HQA
                    generalize t ++ rest.take k = D at *
                    go_wp2_with (first | (at_builtin; refine wpList_append_src _ rfl _ _ 37 37 rfl wb.heap.size 5 i0 (.int .u8 0) 1 Tryd.underlying37 hi0 hz0 hz1 hz2 rfl _ _ _ rfl HOA.out _ 1 _ rfl (HSrc wl).out (by omega) HMX.out.1 HMX.out.2 HSA.out ?_; intro v1 w1 hO hgr _) | go_in)
                    obtain ⟨hs1, hu1⟩ := HUA.out _ _ hgr rfl
                    have hO1 := HE.out _ _ hO
                    go_roundw
                    case rel => exact ⟨k + 1, by go_num, by omega, hO1, hu1⟩
                    case measure => simp [intOfZ]; omega
                  · obtain rfl : k = cn + 1 := by omega
                    have hb2 : ¬ ((cn + 1 : Nat) : Int) ≤ (cn : Int) := by omega
                    have hb3 : ¬ ((cn : Int) + 1) ≤ (cn : Int) := by omega
                    go_wp2_with fail
                    go_roundw
                    case rel => exact ⟨j + 1 + (cn + 1), t ++ rest.take (cn + 1), by go_num, by omega, by rw [HL9.out]; omega, by rw [HL9.out]; omega, HR5, HO, HU⟩
                    case measure => simp [intOfZ]; omega
          · have hn125 : ∃ nn, cn = nn + 125 := ⟨cn - 125, by omega⟩
            obtain ⟨nn, rfl⟩ := hn125
            rcases rest with _ | ⟨d, _ | ⟨e, rest⟩⟩
            · have hR4 : R = ([], 4) := by rw [← HUN.out]; exact unp_copy_short c [] t m (by omega) (by simp)
              subst hR4
              have hrl1 : r.length = j + 1 := by simp at hrl; omega
              have hd1 : (r.length : Int) + 1 < (j : Int) + 1 + 1 + 2 := by omega
              clear HUN HHR HRA HQA H0
              go_wp2_with fail
              go_ret2
              exact ⟨rfl, HU.out⟩
            · have hR4 : R = ([], 4) := by rw [← HUN.out]; exact unp_copy_short c [d] t m (by omega) (by simp)
              subst hR4
              have hrl1 : r.length = j + 2 := by simp at hrl; omega
              have hd1 : (r.length : Int) + 1 < (j : Int) + 1 + 1 + 2 := by omega
              clear HUN HHR HRA HQA H0
              go_wp2_with fail
              go_ret2
              exact ⟨rfl, HU.out⟩
            · have hrl1 : rest.length + (j + 3) = r.length := by simp at hrl; omega
              have hd1 : ¬ (r.length : Int) + 1 < (j : Int) + 1 + 1 + 2 := by omega
              obtain ⟨dn, hdn⟩ : ∃ dn, d.toNat = dn := ⟨_, rfl⟩
              obtain ⟨en, hen⟩ : ∃ en, e.toNat = en := ⟨_, rfl⟩
              have hd256 : dn < 256 := by rw [← hdn]; exact d.toNat_lt
              have he256 : en < 256 := by rw [← hen]; exact e.toNat_lt
              have hqd := HQA.out (j + 1 + 1) d (HRA.out 0 d rfl)
              have hqe := HQA.out (j + 1 + 1 + 1) e (HRA.out 1 e rfl)
              rw [hdn] at hqd
              rw [hen] at hqe
              have hB1 : (0 : Int) ≤ (j : Int) + 1 + 1 := arB1 hrl1
              have hB2 : (j : Int) + 1 < (r.length : Int) := arB2 hrl1
              have hB3 : (0 : Int) ≤ (j : Int) + 1 + 1 + 1 := arB3 hrl1
              have hB4 : (j : Int) + 1 + 1 < (r.length : Int) := arB4 hrl1
              by_cases hD : t.length < dn + 256 * en + 1
              · have hR4 : R = ([], 4) := by rw [← HUN.out]; exact unp_copy_early c d e rest t m (by rw [hcn]; exact hc) (by rw [hdn, hen]; exact hD)
                subst hR4
                have hd2 : (t.length : Int) < (dn : Int) + 256 * en + 1 := by exact_mod_cast hD
                clear HUN HHR HRA HQA H0 hrl
                go_wp2_with fail
                go_quiet (fail)
                go_wp2_with fail
                go_ret2
                exact ⟨rfl, HU.out.drewN _⟩
              · have hd2 : ¬ (t.length : Int) < (dn : Int) + 256 * en + 1 := by exact_mod_cast hD
                by_cases hm3 : m < t.length + nn
                · have hR4 : R = ([], 2) := by rw [← HUN.out]; exact unp_copy_long c d e rest t m (by rw [hcn]; exact hc) (by rw [hdn, hen]; exact hD) (by rw [hcn, Nat.add_sub_cancel]; exact hm3)
                  subst hR4
                  have hd3 := ar3 hm3
                  clear HUN HHR HRA HQA H0 hrl
                  go_wp2_with fail
                  go_quiet (fail)
                  go_wp2_with fail
                  go_ret2
                  exact ⟨rfl, HU.out.drewN _⟩
                · have hd3 := ar3n hm3
                  have e9 := unp_copy c d e rest t m (by rw [hcn]; exact hc) (by rw [hdn, hen]; exact hD) (by rw [hcn, Nat.add_sub_cancel]; exact hm3)
                  rw [hcn, hdn, hen, show nn + 125 - 125 = nn by omega] at e9
                  obtain ⟨fr, hfr⟩ : ∃ fr, t.length - (dn + 256 * en + 1) = fr := ⟨_, rfl⟩
                  rw [hfr] at e9
                  have HR5 : Hid (unp (r.drop (j + 1 + 2)).length (r.drop (j + 1 + 2)) (dup t fr nn) m = R) := by
                    show _ = _
                    rw [← HUN.out, ← List.drop_drop, HHR.out]; exact e9.symm
                  have HL9 : Hid ((dup t fr nn).length = t.length + nn) := dup_length t fr nn
                  clear e9 HUN HHR H0 hrl HRA HQA
                  go_wp2_with fail
                  go_quiet (fail)
                  go_wp2_with fail
                  clear hqd hqe
                  go_loopw [6, 11] (fun v i wl => ∃ k : Nat, i = .int .i64 (k : Int) ∧ k ≤ nn ∧ Hid (OwnB wl wb.heap.size v (dup t fr k)) ∧ Hid (Upd noBlock wb wl)) (fun _ i _ => nn - (intOfZ i).toNat)
                  case atStart => exact ⟨0, rfl, Nat.zero_le _, HO.out.grow ((Upd.refl _ _).drewN _), HU.out.drewN _⟩
                  case round =>
                    clear HO HU
                    obtain ⟨k, rfl, hk, HO, HU⟩ := hrel
                    obtain ⟨wl, rfl⟩ : ∃ wl : World, wl = wr := ⟨_, rfl⟩
                    by_cases h0 : k < nn
                    · have hl := dup_length t fr k
                      have hfl : fr < t.length := by omega
                      obtain ⟨y, hy, hdy⟩ := dup_last t fr k hfl
                      obtain ⟨g, c1, hv1, hgB, hg, hcell⟩ := HO.out.cell (by omega)
                      subst hv1
                      have cc := hcell (fr + k) (by omega)
                      rw [(List.getElem?_eq_some_iff.1 hy).2] at cc
                      have HY : Hid (dup t fr (k + 1) = dup t fr k ++ [y]) := hdy
                      have HSrc : ∀ W : World, Hid (Src Tryd.prog 1 37 (.slice (some ⟨W.heap.size, 0, none⟩) 1 1) 1 (bc [y]) (W.alloc (.cells #[.int .u8 (y.toNat : Int)] 5))) := fun W =>
                        Src.ofSlice _ Tryd.underlying37 _ 1 1 _ rfl (cell_one_new W _ _) (bc_one _)
                      have HOA : Hid ((wl.alloc (.cells #[.int .u8 (y.toNat : Int)] 5)).ownsRow wb.heap.size 5 1 (.slice (some ⟨g, 0, none⟩) (dup t fr k).length c1) (dup t fr k).length (bc (dup t fr k))) := HO.out.grow ((Upd.refl _ _).alloc _)
                      have HSA : Hid (wb.heap.size ≤ (wl.alloc (.cells #[.int .u8 (y.toNat : Int)] 5)).heap.size) := by show _ ≤ _; have := HU.out.size; rw [World.size_alloc]; omega
                      have HMX : Hid ((dup t fr k).length + 1 ≤ maxLen ∧ ((dup t fr k).length + 1) * 1 ≤ 140737488355328) := by show _ ∧ _; unfold maxLen; omega
                      have HE : Hid (∀ v' W', W'.ownsRow wb.heap.size 5 1 v' ((dup t fr k).length + 1) (bc (dup t fr k) ++ bc [y]) → OwnB W' wb.heap.size v' (dup t fr (k + 1))) := fun v' W' h => by rw [HY.out]; exact OwnB.join rfl rfl h
                      have HUA : Hid (∀ (row : Option Nat) (W' : World), (wl.alloc (.cells #[.int .u8 (y.toNat : Int)] 5)).grownBy W' row → (row = some g) → (wb.heap.size ≤ W'.heap.size ∧ Upd noBlock wb W')) := fun row W' hgr hrow => ⟨Nat.le_trans HSA.out hgr.size, upd_of_grown (HU.out.alloc _) hgr (fun k' hk' => .inr (by
                        rw [hrow] at hk'; cases hk'; exact hgB))⟩
                      have hb1 : (t.length : Int) + k - ((dn : Int) + 256 * en + 1) = (fr : Int) + k := by omega
                      have hb2 : (k : Int) < (nn : Int) := by omega
                      have hb3 : fr + k < t.length + k := by omega
                      rw [hl] at HOA HMX HE
                      rw [hl]
                      clear hl hy hdy HY HU HO hcell
                      generalize dup t fr k = D at *
                      go_wp2_with (first | (at_builtin; refine wpList_append_src _ rfl _ _ 37 37 rfl wb.heap.size 5 i0 (.int .u8 0) 1 Tryd.underlying37 hi0 hz0 hz1 hz2 rfl _ _ _ rfl HOA.out _ 1 _ rfl (HSrc wl).out (by omega) HMX.out.1 HMX.out.2 HSA.out ?_; intro v1 w1 hO hgr _) | go_in)
                      obtain ⟨hs1, hu1⟩ := HUA.out _ _ hgr rfl
                      have hO1 := HE.out _ _ hO
                      go_roundw
                      case rel => exact ⟨k + 1, by go_num, by omega, hO1, hu1⟩
                      case measure => simp [intOfZ]; omega
                    · obtain rfl : k = nn := by omega
                      go_wp2_with fail
                      go_roundw
                      case rel => exact ⟨j + 1 + 2, dup t fr k, by go_num, by omega, by rw [HL9.out]; omega, by rw [HL9.out]; omega, HR5, HO, HU⟩
                      case measure => simp [intOfZ]; omega
        · obtain rfl : j = r.length := by omega
          have hcv := HO.out.text
          have e1 : R = (t, 0) := by
            rw [← HUN.out, List.drop_of_length_le (Nat.le_refl _)]; rfl
          subst e1
          clear HUN
          go_wp2_with fail
          go_ret2
          exact ⟨rfl, HU.out⟩
end Go.Proofs.YtcfilepilgjlaaaDoor
