/- OpsNothing. -/
import Derived.Test.YtcfilepilgjlaaaDoorEn
namespace Go.Proofs.YtcfilepilgjlaaaDoor
open Go.RowKit

theorem difL_lt (F : Int) (f1 f2 : Nat → UInt8) (M k : Nat) (h : k < (difL F f1 f2 M).length) : ∃ j : Nat, j < M ∧ (difL F f1 f2 M)[k] = (F + (j : Int), tx f2 (j * 64)) := by
  have hm := List.getElem_mem h
  obtain ⟨p, hp, e⟩ := List.mem_map.1 (show (difL F f1 f2 M)[k] ∈ List.map _ _ from hm)
  exact ⟨p, List.mem_range.1 (List.mem_filter.1 hp).1, e.symm⟩
theorem tx_nil (f : Nat → UInt8) (o : Nat) (h : tx f o = []) (j : Nat) (hj : j < 64) : f (o + j) = 0 := by
  rw [← tx_get f o j hj, h]; rfl
theorem putL_size (F : Int) (f1 f2 : Nat → UInt8) (m j : Nat) : (putL F (fun _ => ⟨#[]⟩) (difL F f1 f2 m) j).size ≤ maxLen := by
  rw [putL_dif]
  split
  · show (tx f2 (j * 64)).length ≤ _
    have := tx_len f2 (j * 64)
    unfold maxLen; omega
  · exact Nat.zero_le _
theorem take_snoc8 {α : Type} (L : List α) (k : Nat) (h : k < L.length) : L.take (k + 1) = L.take k ++ [L[k]] := by
  rw [List.take_add_one, List.getElem?_eq_getElem h]; rfl
/-- behind the changes of a write, the same write changes nothing -/
theorem wr_again (F : Int) (r M : Nat) (d : List UInt8) : difL F (spF (strsAt (putL F (fun _ => ⟨#[]⟩) (difL F (spF []) (laid (spF []) r d d.length) M)) 0 M)) (laid (spF (strsAt (putL F (fun _ => ⟨#[]⟩) (difL F (spF []) (laid (spF []) r d d.length) M)) 0 M)) r d d.length) M = [] := by
  refine difL_none _ _ _ _ fun x hx => ?_
  have hz : ∀ x, spF [] x = 0 := fun x => rfl
  have hp := put_all F (fun _ => ⟨#[]⟩) (spF []) (laid (spF []) r d d.length) M (fun x _ => rfl) (fun p _ ht => same64_true fun j hj => by rw [tx_nil _ _ ht j hj, hz]) x hx
  have hs := spF_strs (putL F (fun _ => ⟨#[]⟩) (difL F (spF []) (laid (spF []) r d d.length) M)) 0 M x hx
  rw [Nat.zero_add, hp] at hs
  generalize spF (strsAt (putL F (fun _ => ⟨#[]⟩) (difL F (spF []) (laid (spF []) r d d.length) M)) 0 M) = G at hs ⊢
  unfold laid at hs ⊢
  by_cases h : r ≤ x ∧ x < r + d.length
  · rw [if_pos h] at hs ⊢; exact hs.symm
  · rw [if_neg h]
theorem span_facts (o : Int) (n : Nat) (h0 : 0 ≤ o) (h1 : o ≤ 2000) (hn : 0 < n) (hn2 : n ≤ 256) : ∃ (F Pn : Int) (r M : Nat), o / 64 = F ∧ pcs (o + (n : Int)) = Pn ∧ (Pn - F).toNat = M ∧ (o % 64).toNat = r ∧ Pn - F = (M : Int) ∧ 1 ≤ M ∧ M ≤ 6 ∧ 0 ≤ F ∧ F ≤ 200 ∧ spanA o (n : Int) = (F, Pn) ∧ 0 ≤ Pn ∧ Pn ≤ 200 ∧ r + n ≤ M * 64 := by
  have hp := pcs_eq (o + (n : Int))
  refine ⟨_, _, _, _, rfl, rfl, rfl, rfl, by omega, by omega, by omega, by omega, by omega, if_pos ⟨h0, by omega, by omega, by omega⟩, by omega, by omega, by omega⟩
set_option maxRecDepth 100000 in
set_option maxHeartbeats 3200000 in
theorem opsNothing_upd (s : ByteArray) (o : Int) (w : World) (hs : s.size ≤ 140737488351232) :
    Calls Tryd.prog 5 #[.string s, .int .i64 o] w fun e w' => e = .returned (.bool true) ∧ Upd noBlock w w' := by
  obtain ⟨l, rfl⟩ : ∃ l : List UInt8, s = ⟨l.toArray⟩ := ⟨s.data.toList, rfl⟩
  have hl : (⟨l.toArray⟩ : ByteArray).size = l.length := rfl
  have hsl0 : ∀ w : World, (Instr.sliceAt 9 (.string ⟨l.toArray⟩) none (some (.int .i64 (min (((⟨l.toArray⟩ : ByteArray).size : Nat) : Int) 256))) none).run Tryd.prog w = .ok (.string ⟨(l.take (min l.length 256)).toArray⟩) w := fun w => by
    have h := sl_hi_str l (min l.length 256) (by omega) w
    rw [show ((min l.length 256 : Nat) : Int) = min (((⟨l.toArray⟩ : ByteArray).size : Nat) : Int) 256 by rw [hl]; omega] at h
    exact h
  obtain ⟨s, hse⟩ : ∃ s : ByteArray, ⟨l.toArray⟩ = s := ⟨_, rfl⟩
  have hd : (l.take (min l.length 256)).length ≤ 256 := by rw [List.length_take]; omega
  obtain ⟨d, hdd⟩ : ∃ d, l.take (min l.length 256) = d := ⟨_, rfl⟩
  obtain ⟨q, hq⟩ : ∃ q : ByteArray, ⟨d.toArray⟩ = q := ⟨_, rfl⟩
  rw [hdd] at hsl0 hd
  rw [hse] at hsl0 hs ⊢
  rw [hq] at hsl0
  have hqz : q.size = d.length := by rw [← hq]; rfl
  have hql : q.data.toList = d := by rw [← hq]
  have hqt : q.toList.isEmpty = d.isEmpty := by rw [Lib.toList_data, hql]
  clear hse hdd hl
  have hcase : (0 ≤ o ∧ o ≤ 2000) ∨ o < 0 ∨ (0 ≤ o ∧ 2000 < o) := by omega
  by_cases b5 : d = []
  · subst b5
    have hqe : q = ⟨#[]⟩ := hq.symm
    subst hqe
    clear hq hqz hql hqt hd
    rcases hcase with ⟨b1, b2⟩ | b1 | ⟨b1, b2⟩
    · have e1 : wrS 0 (o : Int) [] = 0 := by unfold wrS; rw [if_pos ⟨by omega, by simp, by first | (simp; omega) | simp⟩, if_pos rfl]
      have e2 : wrE (o : Int) [] = 0 := by unfold wrE; rw [if_neg (by first | (simp; omega) | simp), if_neg (by first | (simp; omega) | simp)]
      have e3 : ∀ Ss, wrL (o : Int) [] Ss = [] := fun Ss => if_neg (fun h => h.2 rfl)
      have HW1 : Hid (∀ w, Calls Tryd.prog 8 #[.int .i64 1, .int .i64 0, .int .i64 o, .string ⟨#[]⟩, .slice none 0 0] w fun e w' => ∃ v, e = .returned (.tuple #[v, .int .i64 0, .int .i64 0]) ∧ Chs w w' 1 v []) := fun w => by
        have h := Write_any 1 0 o [] none 0 0 0 [] w ⟨Row1.nil w 0 none, fun s hs => by cases hs⟩ (Nat.zero_le _) (Nat.le_refl _) (by decide)
        rw [e1, e2, e3] at h; exact h
      have HW2 : Hid (∀ g w, Calls Tryd.prog 8 #[.int .i64 1, .int .i64 0, .int .i64 o, .string ⟨#[]⟩, .slice (some ⟨g, 0, none⟩) 0 0] w fun e w' => ∃ v, e = .returned (.tuple #[v, .int .i64 0, .int .i64 0]) ∧ Chs w w' 1 v []) := fun g w => by
        have h := Write_any 1 0 o [] (some ⟨g, 0, none⟩) 0 0 0 [] w ⟨Row1.nil w 0 _, fun s hs => by cases hs⟩ (Nat.zero_le _) (Nat.le_refl _) (by decide)
        rw [e1, e2, e3] at h; exact h
      have HSP : Hid (∀ w, Calls Tryd.prog 10 #[.int .i64 o, .int .i64 0] w fun e w' => e = .returned (.tuple #[.int .i64 0, .int .i64 0]) ∧ w = w') := fun w => (Span_any o 0 w).mono fun e w' h => ⟨by rw [h.1, show spanA o 0 = (0, 0) from if_neg (fun h => by have := h.2.1; omega)], h.2.symm⟩
      have hmk := makeS 0 0 rfl (by decide)
      clear e1 e2 e3
      go_enter Tryd.func5, Tryd.ntmps5
      go_upto_region 20 with (first
        | (go_at_call 7; refine (speaksE_any _).mono ?_; rintro e w1 ⟨rfl, u1⟩; have U1 := Lib.hid u1; clear u1)
        | (go_at_call 8; (with_reducible refine (HW1.out _).mono ?_); rintro e w2 ⟨v, rfl, k2⟩; (obtain ⟨xa, xc, rfl, hxc, _⟩ := k2.slice); have U2 := Lib.hid (U1.out.trans k2.up); clear k2)
        | (go_at_call 10; (with_reducible refine (HSP.out _).mono ?_); rintro e w3 ⟨rfl, rfl⟩))
      have U3 := Lib.hid (U2.out.alloc (.cells (madeCells #[.string ⟨#[]⟩] 0) 9))
      go_loopw [11] (fun i wr => i = .int .i64 0 ∧ Hid (Upd noBlock w wr)) (fun _ _ => 0)
      case atStart => exact ⟨rfl, U3⟩
      case round =>
        obtain ⟨rfl, HU⟩ := hrel
        clear U1 U2 U3
        go_wp2_with (first
          | (go_at_call 8; (with_reducible refine (HW2.out _ _).mono ?_); rintro e w5 ⟨v5, rfl, k5⟩; (obtain ⟨ya, yc, rfl, hyc, _⟩ := k5.slice); have U5 := Lib.hid (HU.out.trans k5.up); clear k5)
          | (go_at_call 12; refine (Cut_none _ _ _ _ _ (by decide) (by decide)).mono ?_; rintro e w6 ⟨rfl, rfl⟩))
        go_ret
        exact ⟨rfl, U5.out⟩
    · have e1 : wrS 0 (70 : Int) [] = 0 := by unfold wrS; rw [if_pos ⟨by omega, by simp, by first | (simp; omega) | simp⟩, if_pos rfl]
      have e2 : wrE (70 : Int) [] = 0 := by unfold wrE; rw [if_neg (by first | (simp; omega) | simp), if_neg (by first | (simp; omega) | simp)]
      have e3 : ∀ Ss, wrL (70 : Int) [] Ss = [] := fun Ss => if_neg (fun h => h.2 rfl)
      have HW1 : Hid (∀ w, Calls Tryd.prog 8 #[.int .i64 1, .int .i64 0, .int .i64 70, .string ⟨#[]⟩, .slice none 0 0] w fun e w' => ∃ v, e = .returned (.tuple #[v, .int .i64 0, .int .i64 0]) ∧ Chs w w' 1 v []) := fun w => by
        have h := Write_any 1 0 70 [] none 0 0 0 [] w ⟨Row1.nil w 0 none, fun s hs => by cases hs⟩ (Nat.zero_le _) (Nat.le_refl _) (by decide)
        rw [e1, e2, e3] at h; exact h
      have HW2 : Hid (∀ g w, Calls Tryd.prog 8 #[.int .i64 1, .int .i64 0, .int .i64 70, .string ⟨#[]⟩, .slice (some ⟨g, 0, none⟩) 0 0] w fun e w' => ∃ v, e = .returned (.tuple #[v, .int .i64 0, .int .i64 0]) ∧ Chs w w' 1 v []) := fun g w => by
        have h := Write_any 1 0 70 [] (some ⟨g, 0, none⟩) 0 0 0 [] w ⟨Row1.nil w 0 _, fun s hs => by cases hs⟩ (Nat.zero_le _) (Nat.le_refl _) (by decide)
        rw [e1, e2, e3] at h; exact h
      have HSP : Hid (∀ w, Calls Tryd.prog 10 #[.int .i64 70, .int .i64 0] w fun e w' => e = .returned (.tuple #[.int .i64 0, .int .i64 0]) ∧ w = w') := fun w => (Span_any 70 0 w).mono fun e w' h => ⟨by rw [h.1, show spanA 70 0 = (0, 0) from if_neg (fun h => by have := h.2.1; omega)], h.2.symm⟩
      have hmk := makeS 0 0 rfl (by decide)
      clear e1 e2 e3
      go_enter Tryd.func5, Tryd.ntmps5
      go_upto_region 20 with (first
        | (go_at_call 7; refine (speaksE_any _).mono ?_; rintro e w1 ⟨rfl, u1⟩; have U1 := Lib.hid u1; clear u1)
        | (go_at_call 8; (with_reducible refine (HW1.out _).mono ?_); rintro e w2 ⟨v, rfl, k2⟩; (obtain ⟨xa, xc, rfl, hxc, _⟩ := k2.slice); have U2 := Lib.hid (U1.out.trans k2.up); clear k2)
        | (go_at_call 10; (with_reducible refine (HSP.out _).mono ?_); rintro e w3 ⟨rfl, rfl⟩))
      have U3 := Lib.hid (U2.out.alloc (.cells (madeCells #[.string ⟨#[]⟩] 0) 9))
      go_loopw [11] (fun i wr => i = .int .i64 0 ∧ Hid (Upd noBlock w wr)) (fun _ _ => 0)
      case atStart => exact ⟨rfl, U3⟩
      case round =>
        obtain ⟨rfl, HU⟩ := hrel
        clear U1 U2 U3
        go_wp2_with (first
          | (go_at_call 8; (with_reducible refine (HW2.out _ _).mono ?_); rintro e w5 ⟨v5, rfl, k5⟩; (obtain ⟨ya, yc, rfl, hyc, _⟩ := k5.slice); have U5 := Lib.hid (HU.out.trans k5.up); clear k5)
          | (go_at_call 12; refine (Cut_none _ _ _ _ _ (by decide) (by decide)).mono ?_; rintro e w6 ⟨rfl, rfl⟩))
        go_ret
        exact ⟨rfl, U5.out⟩
    · have e1 : wrS 0 (70 : Int) [] = 0 := by unfold wrS; rw [if_pos ⟨by omega, by simp, by first | (simp; omega) | simp⟩, if_pos rfl]
      have e2 : wrE (70 : Int) [] = 0 := by unfold wrE; rw [if_neg (by first | (simp; omega) | simp), if_neg (by first | (simp; omega) | simp)]
      have e3 : ∀ Ss, wrL (70 : Int) [] Ss = [] := fun Ss => if_neg (fun h => h.2 rfl)
      have HW1 : Hid (∀ w, Calls Tryd.prog 8 #[.int .i64 1, .int .i64 0, .int .i64 70, .string ⟨#[]⟩, .slice none 0 0] w fun e w' => ∃ v, e = .returned (.tuple #[v, .int .i64 0, .int .i64 0]) ∧ Chs w w' 1 v []) := fun w => by
        have h := Write_any 1 0 70 [] none 0 0 0 [] w ⟨Row1.nil w 0 none, fun s hs => by cases hs⟩ (Nat.zero_le _) (Nat.le_refl _) (by decide)
        rw [e1, e2, e3] at h; exact h
      have HW2 : Hid (∀ g w, Calls Tryd.prog 8 #[.int .i64 1, .int .i64 0, .int .i64 70, .string ⟨#[]⟩, .slice (some ⟨g, 0, none⟩) 0 0] w fun e w' => ∃ v, e = .returned (.tuple #[v, .int .i64 0, .int .i64 0]) ∧ Chs w w' 1 v []) := fun g w => by
        have h := Write_any 1 0 70 [] (some ⟨g, 0, none⟩) 0 0 0 [] w ⟨Row1.nil w 0 _, fun s hs => by cases hs⟩ (Nat.zero_le _) (Nat.le_refl _) (by decide)
        rw [e1, e2, e3] at h; exact h
      have HSP : Hid (∀ w, Calls Tryd.prog 10 #[.int .i64 70, .int .i64 0] w fun e w' => e = .returned (.tuple #[.int .i64 0, .int .i64 0]) ∧ w = w') := fun w => (Span_any 70 0 w).mono fun e w' h => ⟨by rw [h.1, show spanA 70 0 = (0, 0) from if_neg (fun h => by have := h.2.1; omega)], h.2.symm⟩
      have hmk := makeS 0 0 rfl (by decide)
      clear e1 e2 e3
      go_enter Tryd.func5, Tryd.ntmps5
      go_upto_region 20 with (first
        | (go_at_call 7; refine (speaksE_any _).mono ?_; rintro e w1 ⟨rfl, u1⟩; have U1 := Lib.hid u1; clear u1)
        | (go_at_call 8; (with_reducible refine (HW1.out _).mono ?_); rintro e w2 ⟨v, rfl, k2⟩; (obtain ⟨xa, xc, rfl, hxc, _⟩ := k2.slice); have U2 := Lib.hid (U1.out.trans k2.up); clear k2)
        | (go_at_call 10; (with_reducible refine (HSP.out _).mono ?_); rintro e w3 ⟨rfl, rfl⟩))
      have U3 := Lib.hid (U2.out.alloc (.cells (madeCells #[.string ⟨#[]⟩] 0) 9))
      go_loopw [11] (fun i wr => i = .int .i64 0 ∧ Hid (Upd noBlock w wr)) (fun _ _ => 0)
      case atStart => exact ⟨rfl, U3⟩
      case round =>
        obtain ⟨rfl, HU⟩ := hrel
        clear U1 U2 U3
        go_wp2_with (first
          | (go_at_call 8; (with_reducible refine (HW2.out _ _).mono ?_); rintro e w5 ⟨v5, rfl, k5⟩; (obtain ⟨ya, yc, rfl, hyc, _⟩ := k5.slice); have U5 := Lib.hid (HU.out.trans k5.up); clear k5)
          | (go_at_call 12; refine (Cut_none _ _ _ _ _ (by decide) (by decide)).mono ?_; rintro e w6 ⟨rfl, rfl⟩))
        go_ret
        exact ⟨rfl, U5.out⟩
  · rcases hcase with ⟨b1, b2⟩ | b1 | ⟨b1, b2⟩
    · obtain ⟨F, Pn, r, M, hF, hP, hM, hr, hPM, hM1, hM2, hF0, hF1, hsp, hP0, hP1, hrN⟩ := span_facts o d.length (by omega) (by omega) (List.length_pos_iff.2 b5) hd
      have hlp : 0 < d.length := List.length_pos_iff.2 b5
      have hok : wrOk o d := ⟨by omega, hd, by omega⟩
      have e2 : wrE o d = 0 := by unfold wrE; rw [if_neg (by omega), if_neg (by omega)]
      have e1 : ∀ z, wrS z o d = max z (o + (d.length : Int)) := fun z => by unfold wrS; rw [if_pos hok, if_neg b5]
      have e3 : ∀ Ss, wrL o d Ss = difL F (spF Ss) (laid (spF Ss) r d d.length) M := fun Ss => by unfold wrL wrF; rw [if_pos ⟨hok, b5⟩, hF, hP, hM, hr]
      have hag := wr_again F r M d
      obtain ⟨L, hL⟩ : ∃ L, difL F (spF []) (laid (spF []) r d d.length) M = L := ⟨_, rfl⟩
      obtain ⟨Z, hZ⟩ : ∃ Z : Int, o + (d.length : Int) = Z := ⟨_, rfl⟩
      have hLl : L.length ≤ M := by rw [← hL]; exact difL_len _ _ _ _
      have hLk : ∀ k (h : k < L.length), ∃ j : Nat, j < M ∧ L[k].1 = F + (j : Int) ∧ L[k].2.length ≤ 64 := fun k h => by
        subst hL
        obtain ⟨j, hj, e⟩ := difL_lt _ _ _ _ k h
        rw [e]
        exact ⟨j, hj, rfl, tx_len _ _⟩
      have hLs : ∀ j, (putL F (fun _ => ⟨#[]⟩) L j).size ≤ maxLen := fun j => by rw [← hL]; exact putL_size _ _ _ _ _
      rw [hL] at hag
      have HW1 : Hid (∀ w, Calls Tryd.prog 8 #[.int .i64 1, .int .i64 0, .int .i64 o, .string q, .slice none 0 0] w fun e w' => ∃ v, e = .returned (.tuple #[v, .int .i64 Z, .int .i64 0]) ∧ Chs w w' 1 v L) := fun w => by
        have h := Write_any 1 0 o d none 0 0 0 [] w ⟨Row1.nil w 0 none, fun s hs => by cases hs⟩ (Nat.zero_le _) (Nat.le_refl _) (by omega)
        rw [e1, e2, e3, hL, hq, hZ, show max (0 : Int) Z = Z by omega] at h; exact h
      have HW2 : Hid (∀ g W, RS W g M (putL F (fun _ => ⟨#[]⟩) L) → Calls Tryd.prog 8 #[.int .i64 1, .int .i64 Z, .int .i64 o, .string q, .slice (some ⟨g, 0, none⟩) M M] W fun e w' => ∃ v, e = .returned (.tuple #[v, .int .i64 Z, .int .i64 0]) ∧ Chs W w' 1 v []) := fun g W hR => by
        have h := Write_any 1 Z o d (some ⟨g, 0, none⟩) M M (g + 1) _ W (hR.strs 0 M (by omega) (fun j _ => hLs j)) hR.lt (Nat.le_refl _) (by omega)
        rw [e1, e2, e3, hag, hq, hZ, show max Z Z = Z by omega] at h; exact h
      have HSP : Hid (∀ w, Calls Tryd.prog 10 #[.int .i64 o, .int .i64 (q.size : Int)] w fun e w' => e = .returned (.tuple #[.int .i64 F, .int .i64 Pn]) ∧ w = w') := fun w => by
        have h := Span_any o (q.size : Int) w
        rw [hqz, hsp] at h
        rw [hqz]
        exact h.mono fun e w' h => ⟨h.1, h.2.symm⟩
      have hmk := makeS M (M : Int) rfl (by omega)
      have hZ2 : o + (q.size : Int) = Z := by rw [hqz]; exact hZ
      have hqe : q.toList.isEmpty = false := by rw [hqt]; cases d with | nil => exact absurd rfl b5 | cons => rfl
      have hZ0 : 0 ≤ Z := by omega
      have hZ1 : Z ≤ 3000 := by omega
      have HLk := Lib.hid hLk
      obtain ⟨n, hn⟩ : ∃ n, L.length = n := ⟨_, rfl⟩
      have HN := Lib.hid hn
      have hnM : n ≤ M := by omega
      clear e1 e2 e3 hag hF hP hM hr hrN hok hqt hql hq hsp hL hLl hLk hLs hn hZ hlp
      have hqs : (q.size : Int) ≤ 256 := by omega
      clear hqz hd b5
      go_enter Tryd.func5, Tryd.ntmps5
      go_upto_region 20 with (first
        | (go_at_call 7; refine (speaksE_any _).mono ?_; rintro e w1 ⟨rfl, u1⟩; have U1 := Lib.hid u1; clear u1)
        | (go_at_call 8; (with_reducible refine (HW1.out _).mono ?_); rintro e w2 ⟨v, rfl, k2⟩; (obtain ⟨xa, xc, rfl, hxc, hxl⟩ := k2.slice); rw [HN.out] at hxc hxl ⊢; have HXL := Lib.hid hxl; have U2 := Lib.hid (U1.out.trans k2.up); clear k2 hxl)
        | (go_at_call 10; (with_reducible refine (HSP.out _).mono ?_); rintro e w3 ⟨rfl, rfl⟩))
      have R0 : Hid (RS (w2.alloc (.cells (madeCells #[.string ⟨#[]⟩] M) 9)) w2.heap.size M (putL F (fun _ => ⟨#[]⟩) (L.take 0))) := RS.made w2 M
      have U3 := Lib.hid ((Upd.refl noBlock w2).alloc (.cells (madeCells #[.string ⟨#[]⟩] M) 9))
      go_loopw [11] (fun i wr => ∃ k : Nat, k ≤ n ∧ i = .int .i64 (k : Int) ∧ Hid (RS wr w2.heap.size M (putL F (fun _ => ⟨#[]⟩) (L.take k))) ∧ Hid (Upd noBlock w2 wr)) (fun i _ => n - (intOf i).toNat)
      case atStart => exact ⟨0, Nat.zero_le _, rfl, R0, U3⟩
      case round =>
        clear R0 U3
        obtain ⟨k, hk, rfl, HR, HU⟩ := hrel
        by_cases h0 : k < n
        · obtain ⟨g, rfl, _, hcell⟩ := HXL.out (by omega)
          have hkl : k < L.length := by rw [HN.out]; exact h0
          obtain ⟨j, hj, hp1, ht64⟩ := HLk.out k hkl
          have hrw := fun i (hi : i < 6) => rows_get 6 (fun c : Int × List UInt8 => (chC 1 c.1 c.2).toList) (fun _ => rfl) L k i hkl hi
          have htk := take_snoc8 L k hkl
          obtain ⟨p, t, hpt⟩ : ∃ p t, L[k] = (p, t) := ⟨_, _, rfl⟩
          rw [hpt] at hp1 ht64 htk
          simp only [hpt] at hrw hp1 ht64
          have HT : Hid (putL F (fun _ => ⟨#[]⟩) (L.take (k + 1)) = putT F (putL F (fun _ => ⟨#[]⟩) (L.take k)) (p, t)) := by show _ = _; rw [htk, putL_snoc]
          have HCF : Hid (∀ W, Upd noBlock w2 W → W.cell? ⟨g, k * 6 + 3, none⟩ = some (.int .i64 p) ∧ W.cell? ⟨g, k * 6 + 4, none⟩ = some (.string ⟨(if t = [] then [] else packL t).toArray⟩) ∧ W.cell? ⟨g, k * 6 + 5, none⟩ = some (.bool t.isEmpty)) := fun W hu =>
            ⟨upd_cell hu (hcell _ _ (hrw 3 (by decide))), upd_cell hu (hcell _ _ (hrw 4 (by decide))), upd_cell hu (hcell _ _ (hrw 5 (by decide)))⟩
          have HP := Lib.hid (fun W => Plain_ch t W ht64)
          obtain ⟨k3, k4, k5⟩ := HCF.out wr HU.out
          obtain ⟨qt, hqt⟩ : ∃ q : ByteArray, ⟨t.toArray⟩ = q := ⟨_, rfl⟩
          have hpj : p - F = (j : Int) := by omega
          clear hrw hpt hcell hkl htk hp1
          by_cases ht : t = []
          · have e1 : t.isEmpty = true := by rw [ht]; rfl
            have HT2 : Hid (putL F (fun _ => ⟨#[]⟩) (L.take (k + 1)) = putL F (fun _ => ⟨#[]⟩) (L.take k)) := by show _ = _; rw [HT.out]; funext x; exact if_pos ht
            rw [e1] at k5 HCF HP
            rw [hqt] at HP
            generalize (⟨(if t = [] then [] else packL t).toArray⟩ : ByteArray) = Q at *
            clear hqt ht e1 ht64 HT
            go_wp2_with (first | (go_at_call 13; (with_reducible refine (HP.out _).mono ?_); rintro e w4 ⟨rfl, u4⟩; (obtain ⟨m3, m4, m5⟩ := HCF.out w4 (HU.out.trans u4)); have RR := Lib.hid (HR.out.grow u4); rw [← HT2.out] at RR; have UU := Lib.hid (HU.out.trans u4); clear u4))
            go_roundw
            case rel => exact ⟨k + 1, by omega, by go_num, RR, UU⟩
            case measure => simp [intOf] <;> omega
          · have e1 : t.isEmpty = false := by cases t with | nil => exact absurd rfl ht | cons => rfl
            have HT2 : Hid (∀ x, (if x = j then qt else putL F (fun _ => ⟨#[]⟩) (L.take k) x) = putL F (fun _ => ⟨#[]⟩) (L.take (k + 1)) x) := fun x => by
              rw [HT.out]
              unfold putT
              rw [if_neg ht]
              by_cases e : x = j
              · rw [if_pos e, if_pos (by show (x : Int) = p - F; omega), hqt]
              · rw [if_neg e, if_neg (by show ¬ (x : Int) = p - F; omega)]
            rw [e1] at k5 HCF HP
            rw [hqt] at HP
            generalize (⟨(if t = [] then [] else packL t).toArray⟩ : ByteArray) = Q at *
            clear hqt ht e1 ht64 HT
            go_wp2_with (first | (go_at_call 13; (with_reducible refine (HP.out _).mono ?_); rintro e w4 ⟨rfl, u4⟩; (obtain ⟨m3, m4, m5⟩ := HCF.out w4 (HU.out.trans u4)); have cc := (HR.out.grow u4).cell j hj; have ff := (HR.out.grow u4).free j; have RR := Lib.hid (((HR.out.grow u4).set j qt).congr (fun x _ => HT2.out x)); have UU := Lib.hid ((HU.out.trans u4).setCell (p := ⟨w2.heap.size, j, none⟩) (.inr (Nat.le_refl _)) (.string qt)); clear u4))
            go_roundw
            case rel => exact ⟨k + 1, by omega, by go_num, RR, UU⟩
            case measure => simp [intOf] <;> omega
        · obtain rfl : k = n := by omega
          have RR := HR.out
          rw [List.take_of_length_le (by rw [HN.out]; exact Nat.le_refl _)] at RR
          have HWW := Lib.hid (HW2.out _ _ RR)
          have UU := Lib.hid (U2.out.trans HU.out)
          clear HW1 HW2 HR RR HXL U1 U2 HU HSP HLk hmk
          go_wp2_with (first
            | (go_at_call 8; (with_reducible refine HWW.out.mono ?_); rintro e w5 ⟨v5, rfl, k5⟩; (obtain ⟨ya, yc, rfl, hyc, _⟩ := k5.slice); have U5 := Lib.hid (UU.out.trans k5.up); clear k5)
            | (go_at_call 12; refine (Cut_none _ _ _ _ _ (by omega) (by omega)).mono ?_; rintro e w6 ⟨rfl, rfl⟩))
          go_ret
          exact ⟨rfl, U5.out⟩
    · obtain ⟨F, Pn, r, M, hF, hP, hM, hr, hPM, hM1, hM2, hF0, hF1, hsp, hP0, hP1, hrN⟩ := span_facts (70 : Int) d.length (by omega) (by omega) (List.length_pos_iff.2 b5) hd
      have hlp : 0 < d.length := List.length_pos_iff.2 b5
      have hok : wrOk (70 : Int) d := ⟨by omega, hd, by omega⟩
      have e2 : wrE (70 : Int) d = 0 := by unfold wrE; rw [if_neg (by omega), if_neg (by omega)]
      have e1 : ∀ z, wrS z (70 : Int) d = max z ((70 : Int) + (d.length : Int)) := fun z => by unfold wrS; rw [if_pos hok, if_neg b5]
      have e3 : ∀ Ss, wrL (70 : Int) d Ss = difL F (spF Ss) (laid (spF Ss) r d d.length) M := fun Ss => by unfold wrL wrF; rw [if_pos ⟨hok, b5⟩, hF, hP, hM, hr]
      have hag := wr_again F r M d
      obtain ⟨L, hL⟩ : ∃ L, difL F (spF []) (laid (spF []) r d d.length) M = L := ⟨_, rfl⟩
      obtain ⟨Z, hZ⟩ : ∃ Z : Int, (70 : Int) + (d.length : Int) = Z := ⟨_, rfl⟩
      have hLl : L.length ≤ M := by rw [← hL]; exact difL_len _ _ _ _
      have hLk : ∀ k (h : k < L.length), ∃ j : Nat, j < M ∧ L[k].1 = F + (j : Int) ∧ L[k].2.length ≤ 64 := fun k h => by
        subst hL
        obtain ⟨j, hj, e⟩ := difL_lt _ _ _ _ k h
        rw [e]
        exact ⟨j, hj, rfl, tx_len _ _⟩
      have hLs : ∀ j, (putL F (fun _ => ⟨#[]⟩) L j).size ≤ maxLen := fun j => by rw [← hL]; exact putL_size _ _ _ _ _
      rw [hL] at hag
      have HW1 : Hid (∀ w, Calls Tryd.prog 8 #[.int .i64 1, .int .i64 0, .int .i64 (70 : Int), .string q, .slice none 0 0] w fun e w' => ∃ v, e = .returned (.tuple #[v, .int .i64 Z, .int .i64 0]) ∧ Chs w w' 1 v L) := fun w => by
        have h := Write_any 1 0 (70 : Int) d none 0 0 0 [] w ⟨Row1.nil w 0 none, fun s hs => by cases hs⟩ (Nat.zero_le _) (Nat.le_refl _) (by omega)
        rw [e1, e2, e3, hL, hq, hZ, show max (0 : Int) Z = Z by omega] at h; exact h
      have HW2 : Hid (∀ g W, RS W g M (putL F (fun _ => ⟨#[]⟩) L) → Calls Tryd.prog 8 #[.int .i64 1, .int .i64 Z, .int .i64 (70 : Int), .string q, .slice (some ⟨g, 0, none⟩) M M] W fun e w' => ∃ v, e = .returned (.tuple #[v, .int .i64 Z, .int .i64 0]) ∧ Chs W w' 1 v []) := fun g W hR => by
        have h := Write_any 1 Z (70 : Int) d (some ⟨g, 0, none⟩) M M (g + 1) _ W (hR.strs 0 M (by omega) (fun j _ => hLs j)) hR.lt (Nat.le_refl _) (by omega)
        rw [e1, e2, e3, hag, hq, hZ, show max Z Z = Z by omega] at h; exact h
      have HSP : Hid (∀ w, Calls Tryd.prog 10 #[.int .i64 (70 : Int), .int .i64 (q.size : Int)] w fun e w' => e = .returned (.tuple #[.int .i64 F, .int .i64 Pn]) ∧ w = w') := fun w => by
        have h := Span_any (70 : Int) (q.size : Int) w
        rw [hqz, hsp] at h
        rw [hqz]
        exact h.mono fun e w' h => ⟨h.1, h.2.symm⟩
      have hmk := makeS M (M : Int) rfl (by omega)
      have hZ2 : (70 : Int) + (q.size : Int) = Z := by rw [hqz]; exact hZ
      have hqe : q.toList.isEmpty = false := by rw [hqt]; cases d with | nil => exact absurd rfl b5 | cons => rfl
      have hZ0 : 0 ≤ Z := by omega
      have hZ1 : Z ≤ 3000 := by omega
      have HLk := Lib.hid hLk
      obtain ⟨n, hn⟩ : ∃ n, L.length = n := ⟨_, rfl⟩
      have HN := Lib.hid hn
      have hnM : n ≤ M := by omega
      clear e1 e2 e3 hag hF hP hM hr hrN hok hqt hql hq hsp hL hLl hLk hLs hn hZ hlp
      have hqs : (q.size : Int) ≤ 256 := by omega
      clear hqz hd b5
      go_enter Tryd.func5, Tryd.ntmps5
      go_upto_region 20 with (first
        | (go_at_call 7; refine (speaksE_any _).mono ?_; rintro e w1 ⟨rfl, u1⟩; have U1 := Lib.hid u1; clear u1)
        | (go_at_call 8; (with_reducible refine (HW1.out _).mono ?_); rintro e w2 ⟨v, rfl, k2⟩; (obtain ⟨xa, xc, rfl, hxc, hxl⟩ := k2.slice); rw [HN.out] at hxc hxl ⊢; have HXL := Lib.hid hxl; have U2 := Lib.hid (U1.out.trans k2.up); clear k2 hxl)
        | (go_at_call 10; (with_reducible refine (HSP.out _).mono ?_); rintro e w3 ⟨rfl, rfl⟩))
      have R0 : Hid (RS (w2.alloc (.cells (madeCells #[.string ⟨#[]⟩] M) 9)) w2.heap.size M (putL F (fun _ => ⟨#[]⟩) (L.take 0))) := RS.made w2 M
      have U3 := Lib.hid ((Upd.refl noBlock w2).alloc (.cells (madeCells #[.string ⟨#[]⟩] M) 9))
      go_loopw [11] (fun i wr => ∃ k : Nat, k ≤ n ∧ i = .int .i64 (k : Int) ∧ Hid (RS wr w2.heap.size M (putL F (fun _ => ⟨#[]⟩) (L.take k))) ∧ Hid (Upd noBlock w2 wr)) (fun i _ => n - (intOf i).toNat)
      case atStart => exact ⟨0, Nat.zero_le _, rfl, R0, U3⟩
      case round =>
        clear R0 U3
        obtain ⟨k, hk, rfl, HR, HU⟩ := hrel
        by_cases h0 : k < n
        · obtain ⟨g, rfl, _, hcell⟩ := HXL.out (by omega)
          have hkl : k < L.length := by rw [HN.out]; exact h0
          obtain ⟨j, hj, hp1, ht64⟩ := HLk.out k hkl
          have hrw := fun i (hi : i < 6) => rows_get 6 (fun c : Int × List UInt8 => (chC 1 c.1 c.2).toList) (fun _ => rfl) L k i hkl hi
          have htk := take_snoc8 L k hkl
          obtain ⟨p, t, hpt⟩ : ∃ p t, L[k] = (p, t) := ⟨_, _, rfl⟩
          rw [hpt] at hp1 ht64 htk
          simp only [hpt] at hrw hp1 ht64
          have HT : Hid (putL F (fun _ => ⟨#[]⟩) (L.take (k + 1)) = putT F (putL F (fun _ => ⟨#[]⟩) (L.take k)) (p, t)) := by show _ = _; rw [htk, putL_snoc]
          have HCF : Hid (∀ W, Upd noBlock w2 W → W.cell? ⟨g, k * 6 + 3, none⟩ = some (.int .i64 p) ∧ W.cell? ⟨g, k * 6 + 4, none⟩ = some (.string ⟨(if t = [] then [] else packL t).toArray⟩) ∧ W.cell? ⟨g, k * 6 + 5, none⟩ = some (.bool t.isEmpty)) := fun W hu =>
            ⟨upd_cell hu (hcell _ _ (hrw 3 (by decide))), upd_cell hu (hcell _ _ (hrw 4 (by decide))), upd_cell hu (hcell _ _ (hrw 5 (by decide)))⟩
          have HP := Lib.hid (fun W => Plain_ch t W ht64)
          obtain ⟨k3, k4, k5⟩ := HCF.out wr HU.out
          obtain ⟨qt, hqt⟩ : ∃ q : ByteArray, ⟨t.toArray⟩ = q := ⟨_, rfl⟩
          have hpj : p - F = (j : Int) := by omega
          clear hrw hpt hcell hkl htk hp1
          by_cases ht : t = []
          · have e1 : t.isEmpty = true := by rw [ht]; rfl
            have HT2 : Hid (putL F (fun _ => ⟨#[]⟩) (L.take (k + 1)) = putL F (fun _ => ⟨#[]⟩) (L.take k)) := by show _ = _; rw [HT.out]; funext x; exact if_pos ht
            rw [e1] at k5 HCF HP
            rw [hqt] at HP
            generalize (⟨(if t = [] then [] else packL t).toArray⟩ : ByteArray) = Q at *
            clear hqt ht e1 ht64 HT
            go_wp2_with (first | (go_at_call 13; (with_reducible refine (HP.out _).mono ?_); rintro e w4 ⟨rfl, u4⟩; (obtain ⟨m3, m4, m5⟩ := HCF.out w4 (HU.out.trans u4)); have RR := Lib.hid (HR.out.grow u4); rw [← HT2.out] at RR; have UU := Lib.hid (HU.out.trans u4); clear u4))
            go_roundw
            case rel => exact ⟨k + 1, by omega, by go_num, RR, UU⟩
            case measure => simp [intOf] <;> omega
          · have e1 : t.isEmpty = false := by cases t with | nil => exact absurd rfl ht | cons => rfl
            have HT2 : Hid (∀ x, (if x = j then qt else putL F (fun _ => ⟨#[]⟩) (L.take k) x) = putL F (fun _ => ⟨#[]⟩) (L.take (k + 1)) x) := fun x => by
              rw [HT.out]
              unfold putT
              rw [if_neg ht]
              by_cases e : x = j
              · rw [if_pos e, if_pos (by show (x : Int) = p - F; omega), hqt]
              · rw [if_neg e, if_neg (by show ¬ (x : Int) = p - F; omega)]
            rw [e1] at k5 HCF HP
            rw [hqt] at HP
            generalize (⟨(if t = [] then [] else packL t).toArray⟩ : ByteArray) = Q at *
            clear hqt ht e1 ht64 HT
            go_wp2_with (first | (go_at_call 13; (with_reducible refine (HP.out _).mono ?_); rintro e w4 ⟨rfl, u4⟩; (obtain ⟨m3, m4, m5⟩ := HCF.out w4 (HU.out.trans u4)); have cc := (HR.out.grow u4).cell j hj; have ff := (HR.out.grow u4).free j; have RR := Lib.hid (((HR.out.grow u4).set j qt).congr (fun x _ => HT2.out x)); have UU := Lib.hid ((HU.out.trans u4).setCell (p := ⟨w2.heap.size, j, none⟩) (.inr (Nat.le_refl _)) (.string qt)); clear u4))
            go_roundw
            case rel => exact ⟨k + 1, by omega, by go_num, RR, UU⟩
            case measure => simp [intOf] <;> omega
        · obtain rfl : k = n := by omega
          have RR := HR.out
          rw [List.take_of_length_le (by rw [HN.out]; exact Nat.le_refl _)] at RR
          have HWW := Lib.hid (HW2.out _ _ RR)
          have UU := Lib.hid (U2.out.trans HU.out)
          clear HW1 HW2 HR RR HXL U1 U2 HU HSP HLk hmk
          go_wp2_with (first
            | (go_at_call 8; (with_reducible refine HWW.out.mono ?_); rintro e w5 ⟨v5, rfl, k5⟩; (obtain ⟨ya, yc, rfl, hyc, _⟩ := k5.slice); have U5 := Lib.hid (UU.out.trans k5.up); clear k5)
            | (go_at_call 12; refine (Cut_none _ _ _ _ _ (by omega) (by omega)).mono ?_; rintro e w6 ⟨rfl, rfl⟩))
          go_ret
          exact ⟨rfl, U5.out⟩
    · obtain ⟨F, Pn, r, M, hF, hP, hM, hr, hPM, hM1, hM2, hF0, hF1, hsp, hP0, hP1, hrN⟩ := span_facts (70 : Int) d.length (by omega) (by omega) (List.length_pos_iff.2 b5) hd
      have hlp : 0 < d.length := List.length_pos_iff.2 b5
      have hok : wrOk (70 : Int) d := ⟨by omega, hd, by omega⟩
      have e2 : wrE (70 : Int) d = 0 := by unfold wrE; rw [if_neg (by omega), if_neg (by omega)]
      have e1 : ∀ z, wrS z (70 : Int) d = max z ((70 : Int) + (d.length : Int)) := fun z => by unfold wrS; rw [if_pos hok, if_neg b5]
      have e3 : ∀ Ss, wrL (70 : Int) d Ss = difL F (spF Ss) (laid (spF Ss) r d d.length) M := fun Ss => by unfold wrL wrF; rw [if_pos ⟨hok, b5⟩, hF, hP, hM, hr]
      have hag := wr_again F r M d
      obtain ⟨L, hL⟩ : ∃ L, difL F (spF []) (laid (spF []) r d d.length) M = L := ⟨_, rfl⟩
      obtain ⟨Z, hZ⟩ : ∃ Z : Int, (70 : Int) + (d.length : Int) = Z := ⟨_, rfl⟩
      have hLl : L.length ≤ M := by rw [← hL]; exact difL_len _ _ _ _
      have hLk : ∀ k (h : k < L.length), ∃ j : Nat, j < M ∧ L[k].1 = F + (j : Int) ∧ L[k].2.length ≤ 64 := fun k h => by
        subst hL
        obtain ⟨j, hj, e⟩ := difL_lt _ _ _ _ k h
        rw [e]
        exact ⟨j, hj, rfl, tx_len _ _⟩
      have hLs : ∀ j, (putL F (fun _ => ⟨#[]⟩) L j).size ≤ maxLen := fun j => by rw [← hL]; exact putL_size _ _ _ _ _
      rw [hL] at hag
      have HW1 : Hid (∀ w, Calls Tryd.prog 8 #[.int .i64 1, .int .i64 0, .int .i64 (70 : Int), .string q, .slice none 0 0] w fun e w' => ∃ v, e = .returned (.tuple #[v, .int .i64 Z, .int .i64 0]) ∧ Chs w w' 1 v L) := fun w => by
        have h := Write_any 1 0 (70 : Int) d none 0 0 0 [] w ⟨Row1.nil w 0 none, fun s hs => by cases hs⟩ (Nat.zero_le _) (Nat.le_refl _) (by omega)
        rw [e1, e2, e3, hL, hq, hZ, show max (0 : Int) Z = Z by omega] at h; exact h
      have HW2 : Hid (∀ g W, RS W g M (putL F (fun _ => ⟨#[]⟩) L) → Calls Tryd.prog 8 #[.int .i64 1, .int .i64 Z, .int .i64 (70 : Int), .string q, .slice (some ⟨g, 0, none⟩) M M] W fun e w' => ∃ v, e = .returned (.tuple #[v, .int .i64 Z, .int .i64 0]) ∧ Chs W w' 1 v []) := fun g W hR => by
        have h := Write_any 1 Z (70 : Int) d (some ⟨g, 0, none⟩) M M (g + 1) _ W (hR.strs 0 M (by omega) (fun j _ => hLs j)) hR.lt (Nat.le_refl _) (by omega)
        rw [e1, e2, e3, hag, hq, hZ, show max Z Z = Z by omega] at h; exact h
      have HSP : Hid (∀ w, Calls Tryd.prog 10 #[.int .i64 (70 : Int), .int .i64 (q.size : Int)] w fun e w' => e = .returned (.tuple #[.int .i64 F, .int .i64 Pn]) ∧ w = w') := fun w => by
        have h := Span_any (70 : Int) (q.size : Int) w
        rw [hqz, hsp] at h
        rw [hqz]
        exact h.mono fun e w' h => ⟨h.1, h.2.symm⟩
      have hmk := makeS M (M : Int) rfl (by omega)
      have hZ2 : (70 : Int) + (q.size : Int) = Z := by rw [hqz]; exact hZ
      have hqe : q.toList.isEmpty = false := by rw [hqt]; cases d with | nil => exact absurd rfl b5 | cons => rfl
      have hZ0 : 0 ≤ Z := by omega
      have hZ1 : Z ≤ 3000 := by omega
      have HLk := Lib.hid hLk
      obtain ⟨n, hn⟩ : ∃ n, L.length = n := ⟨_, rfl⟩
      have HN := Lib.hid hn
      have hnM : n ≤ M := by omega
      clear e1 e2 e3 hag hF hP hM hr hrN hok hqt hql hq hsp hL hLl hLk hLs hn hZ hlp
      have hqs : (q.size : Int) ≤ 256 := by omega
      clear hqz hd b5
      go_enter Tryd.func5, Tryd.ntmps5
      go_upto_region 20 with (first
        | (go_at_call 7; refine (speaksE_any _).mono ?_; rintro e w1 ⟨rfl, u1⟩; have U1 := Lib.hid u1; clear u1)
        | (go_at_call 8; (with_reducible refine (HW1.out _).mono ?_); rintro e w2 ⟨v, rfl, k2⟩; (obtain ⟨xa, xc, rfl, hxc, hxl⟩ := k2.slice); rw [HN.out] at hxc hxl ⊢; have HXL := Lib.hid hxl; have U2 := Lib.hid (U1.out.trans k2.up); clear k2 hxl)
        | (go_at_call 10; (with_reducible refine (HSP.out _).mono ?_); rintro e w3 ⟨rfl, rfl⟩))
      have R0 : Hid (RS (w2.alloc (.cells (madeCells #[.string ⟨#[]⟩] M) 9)) w2.heap.size M (putL F (fun _ => ⟨#[]⟩) (L.take 0))) := RS.made w2 M
      have U3 := Lib.hid ((Upd.refl noBlock w2).alloc (.cells (madeCells #[.string ⟨#[]⟩] M) 9))
      go_loopw [11] (fun i wr => ∃ k : Nat, k ≤ n ∧ i = .int .i64 (k : Int) ∧ Hid (RS wr w2.heap.size M (putL F (fun _ => ⟨#[]⟩) (L.take k))) ∧ Hid (Upd noBlock w2 wr)) (fun i _ => n - (intOf i).toNat)
      case atStart => exact ⟨0, Nat.zero_le _, rfl, R0, U3⟩
      case round =>
        clear R0 U3
        obtain ⟨k, hk, rfl, HR, HU⟩ := hrel
        by_cases h0 : k < n
        · obtain ⟨g, rfl, _, hcell⟩ := HXL.out (by omega)
          have hkl : k < L.length := by rw [HN.out]; exact h0
          obtain ⟨j, hj, hp1, ht64⟩ := HLk.out k hkl
          have hrw := fun i (hi : i < 6) => rows_get 6 (fun c : Int × List UInt8 => (chC 1 c.1 c.2).toList) (fun _ => rfl) L k i hkl hi
          have htk := take_snoc8 L k hkl
          obtain ⟨p, t, hpt⟩ : ∃ p t, L[k] = (p, t) := ⟨_, _, rfl⟩
          rw [hpt] at hp1 ht64 htk
          simp only [hpt] at hrw hp1 ht64
          have HT : Hid (putL F (fun _ => ⟨#[]⟩) (L.take (k + 1)) = putT F (putL F (fun _ => ⟨#[]⟩) (L.take k)) (p, t)) := by show _ = _; rw [htk, putL_snoc]
          have HCF : Hid (∀ W, Upd noBlock w2 W → W.cell? ⟨g, k * 6 + 3, none⟩ = some (.int .i64 p) ∧ W.cell? ⟨g, k * 6 + 4, none⟩ = some (.string ⟨(if t = [] then [] else packL t).toArray⟩) ∧ W.cell? ⟨g, k * 6 + 5, none⟩ = some (.bool t.isEmpty)) := fun W hu =>
            ⟨upd_cell hu (hcell _ _ (hrw 3 (by decide))), upd_cell hu (hcell _ _ (hrw 4 (by decide))), upd_cell hu (hcell _ _ (hrw 5 (by decide)))⟩
          have HP := Lib.hid (fun W => Plain_ch t W ht64)
          obtain ⟨k3, k4, k5⟩ := HCF.out wr HU.out
          obtain ⟨qt, hqt⟩ : ∃ q : ByteArray, ⟨t.toArray⟩ = q := ⟨_, rfl⟩
          have hpj : p - F = (j : Int) := by omega
          clear hrw hpt hcell hkl htk hp1
          by_cases ht : t = []
          · have e1 : t.isEmpty = true := by rw [ht]; rfl
            have HT2 : Hid (putL F (fun _ => ⟨#[]⟩) (L.take (k + 1)) = putL F (fun _ => ⟨#[]⟩) (L.take k)) := by show _ = _; rw [HT.out]; funext x; exact if_pos ht
            rw [e1] at k5 HCF HP
            rw [hqt] at HP
            generalize (⟨(if t = [] then [] else packL t).toArray⟩ : ByteArray) = Q at *
            clear hqt ht e1 ht64 HT
            go_wp2_with (first | (go_at_call 13; (with_reducible refine (HP.out _).mono ?_); rintro e w4 ⟨rfl, u4⟩; (obtain ⟨m3, m4, m5⟩ := HCF.out w4 (HU.out.trans u4)); have RR := Lib.hid (HR.out.grow u4); rw [← HT2.out] at RR; have UU := Lib.hid (HU.out.trans u4); clear u4))
            go_roundw
            case rel => exact ⟨k + 1, by omega, by go_num, RR, UU⟩
            case measure => simp [intOf] <;> omega
          · have e1 : t.isEmpty = false := by cases t with | nil => exact absurd rfl ht | cons => rfl
            have HT2 : Hid (∀ x, (if x = j then qt else putL F (fun _ => ⟨#[]⟩) (L.take k) x) = putL F (fun _ => ⟨#[]⟩) (L.take (k + 1)) x) := fun x => by
              rw [HT.out]
              unfold putT
              rw [if_neg ht]
              by_cases e : x = j
              · rw [if_pos e, if_pos (by show (x : Int) = p - F; omega), hqt]
              · rw [if_neg e, if_neg (by show ¬ (x : Int) = p - F; omega)]
            rw [e1] at k5 HCF HP
            rw [hqt] at HP
            generalize (⟨(if t = [] then [] else packL t).toArray⟩ : ByteArray) = Q at *
            clear hqt ht e1 ht64 HT
            go_wp2_with (first | (go_at_call 13; (with_reducible refine (HP.out _).mono ?_); rintro e w4 ⟨rfl, u4⟩; (obtain ⟨m3, m4, m5⟩ := HCF.out w4 (HU.out.trans u4)); have cc := (HR.out.grow u4).cell j hj; have ff := (HR.out.grow u4).free j; have RR := Lib.hid (((HR.out.grow u4).set j qt).congr (fun x _ => HT2.out x)); have UU := Lib.hid ((HU.out.trans u4).setCell (p := ⟨w2.heap.size, j, none⟩) (.inr (Nat.le_refl _)) (.string qt)); clear u4))
            go_roundw
            case rel => exact ⟨k + 1, by omega, by go_num, RR, UU⟩
            case measure => simp [intOf] <;> omega
        · obtain rfl : k = n := by omega
          have RR := HR.out
          rw [List.take_of_length_le (by rw [HN.out]; exact Nat.le_refl _)] at RR
          have HWW := Lib.hid (HW2.out _ _ RR)
          have UU := Lib.hid (U2.out.trans HU.out)
          clear HW1 HW2 HR RR HXL U1 U2 HU HSP HLk hmk
          go_wp2_with (first
            | (go_at_call 8; (with_reducible refine HWW.out.mono ?_); rintro e w5 ⟨v5, rfl, k5⟩; (obtain ⟨ya, yc, rfl, hyc, _⟩ := k5.slice); have U5 := Lib.hid (UU.out.trans k5.up); clear k5)
            | (go_at_call 12; refine (Cut_none _ _ _ _ _ (by omega) (by omega)).mono ?_; rintro e w6 ⟨rfl, rfl⟩))
          go_ret
          exact ⟨rfl, U5.out⟩
theorem opsNothing_walk (s : ByteArray) (o : Int) (w : World) (hs : s.size ≤ 140737488351232) (_ : (Lit.int IntKind.i64 o).wf = true) (_ : True) :
    Calls Tryd.prog 5 #[.string s, .int .i64 o] w fun e w' => e = .returned (.bool true) ∧ Below w.heap.size w w' :=
  (opsNothing_upd s o w hs).mono fun _ _ ⟨h, hu⟩ => ⟨h, hu.below (fun _ _ h => h)⟩
end Go.Proofs.YtcfilepilgjlaaaDoor
