/- pack, Pack. -/
import Derived.Test.YtcfilepilgjlaaaDoorZn
import Derived.Test.YtcfilepilgjlaaaDoorZk
namespace Go.Proofs.YtcfilepilgjlaaaDoor
open Go.RowKit

theorem pk_fuel (l : List UInt8) : ∀ (f f' p d : Nat) (T : List UInt8), l.length - p ≤ f → l.length - p ≤ f' → pk l f p d T = pk l f' p d T
  | 0, 0, _, _, _, _, _ => rfl
  | 0, f' + 1, p, d, T, h, _ => by rw [pk, pk, if_neg (by omega)]
  | f + 1, 0, p, d, T, _, h => by rw [pk, pk, if_neg (by omega)]
  | f + 1, f' + 1, p, d, T, h, h' => by
    rw [pk, pk]
    by_cases hp : p < l.length
    · rw [if_pos hp, if_pos hp]
      by_cases h4 : (rep l p).2 < 4
      · rw [if_pos h4, if_pos h4]
        exact pk_fuel l f f' _ _ _ (by omega) (by omega)
      · rw [if_neg h4, if_neg h4]
        exact pk_fuel l f f' _ _ _ (by omega) (by omega)
    · rw [if_neg hp, if_neg hp]
theorem pk_one (l : List UInt8) (p d : Nat) (T : List UInt8) (hp : p < l.length) (h4 : (rep l p).2 < 4) : pk l l.length p d T = pk l l.length (p + 1) d T := by
  rw [pk_fuel l l.length (l.length + 1) p d T (by omega) (by omega), pk, if_pos hp, if_pos h4]
theorem pk_more (l : List UInt8) (p d : Nat) (T : List UInt8) (hp : p < l.length) (h4 : ¬ (rep l p).2 < 4) : pk l l.length p d T = pk l l.length (p + (rep l p).2) (p + (rep l p).2) (litT l p T d p ++ copyT (p - (rep l p).1 - 1) (rep l p).2) := by
  rw [pk_fuel l l.length (l.length + 1) p d T (by omega) (by omega), pk, if_pos hp, if_neg h4]
theorem pk_end (l : List UInt8) (p d : Nat) (T : List UInt8) (hp : ¬ p < l.length) : pk l l.length p d T = (T, d) := by
  rw [pk_fuel l l.length 0 p d T (by omega) (by omega)]; rfl

set_option maxRecDepth 20000 in
set_option maxHeartbeats 3200000 in
theorem pack_any (l : List UInt8) (w : World) (hl : l.length ≤ 65536) :
    Calls Tryd.prog 37 #[.string ⟨l.toArray⟩] w fun e w' => e = .returned (.string ⟨(packT l).toArray⟩) ∧ Upd noBlock w w' := by
  obtain ⟨q, hq⟩ : ∃ q : ByteArray, ⟨l.toArray⟩ = q := ⟨_, rfl⟩
  rw [hq]
  have hsz : q.size = l.length := by rw [← hq]; rfl
  have HQ := Lib.hid hq.symm
  obtain ⟨R, hR⟩ : ∃ R, pk l l.length 0 0 [] = R := ⟨_, rfl⟩
  have HR0 := Lib.hid hR
  obtain ⟨PT, hPT⟩ : ∃ PT, packT l = PT := ⟨_, rfl⟩
  rw [hPT]
  have HPK : Hid (PT = litT l l.length R.1 R.2 l.length) := by show _ = _; rw [← hPT, packT, hR]
  clear hPT
  have H0 : Hid (Pin ((w.alloc (.map #[] 0)).alloc (.cells #[.string q, .slice none 0 0, .int .i64 0, .map (some w.heap.size)] 86)) w.heap.size (w.heap.size + 1) w.heap.size q [] 0 0 (prev l 0)) := by
    refine ⟨⟨.slice none 0 0, heap_alloc2_new w _ _, OwnB.nil _ _⟩, (Mp.made w).upd ((Upd.refl noBlock _).alloc _) (fun h => h), Nat.le_succ _, Nat.le_refl _, ?_⟩
    rw [World.size_alloc, World.size_alloc]; omega
  have HU0 : Hid (Upd noBlock w ((w.alloc (.map #[] 0)).alloc (.cells #[.string q, .slice none 0 0, .int .i64 0, .map (some w.heap.size)] 86))) := ((Upd.refl _ _).alloc _).alloc _
  have hmm := @run_makeMap Tryd.prog
  clear hq hR
  go_enter Tryd.func37, Tryd.ntmps37
  go_wp2
  clear hmm
  go_loopw [4] (fun i wr => ∃ (p d : Nat) (T : List UInt8), i = .int .i64 (p : Int) ∧ p ≤ l.length ∧ d ≤ p ∧ Hid (Pin wr w.heap.size (w.heap.size + 1) w.heap.size q T d p (prev l p)) ∧ Hid (T.length ≤ 2 * d) ∧ Hid (pk l l.length p d T = R) ∧ Hid (Upd noBlock w wr)) (fun i _ => l.length - (intOfZ i).toNat)
  case atStart => exact ⟨0, 0, [], rfl, Nat.zero_le _, Nat.zero_le _, H0, Nat.le_refl _, HR0, HU0⟩
  case round =>
    clear H0 HU0 HR0
    obtain ⟨p, d, T, rfl, hp, hdp, HP, HT, HR, HU⟩ := hrel
    by_cases hlt : p < l.length
    · have HREP : Hid (Calls Tryd.prog 43 #[.pointer (some ⟨w.heap.size + 1, 0, none⟩), .int .i64 (p : Int)] wr fun e w' => e = .returned (.tuple #[.int .i64 ((rep l p).1 : Int), .int .i64 ((rep l p).2 : Int)]) ∧ Pin w' w.heap.size (w.heap.size + 1) w.heap.size q T d p (prev l p) ∧ Upd noBlock w w') := by
        show Calls _ _ _ _ _
        refine (repeated_any l q HQ.out _ _ _ T d p p wr HP.out hl hp).mono ?_
        rintro e w1 ⟨h1, h2⟩
        exact ⟨h1, HP.out.upd h2, HU.out.trans h2⟩
      by_cases h4 : (rep l p).2 < 4
      · have HR2 : Hid (pk l l.length (p + 1) d T = R) := by show _ = _; rw [← pk_one l p d T hlt h4]; exact HR.out
        generalize (rep l p).1 = frm at *
        generalize (rep l p).2 = m at *
        have h4' : decide ((m : Int) < 4) = true := decide_eq_true (by omega)
        go_wp2_with (go_at_call 43; refine HREP.out.mono ?_; rintro e w1 ⟨rfl, h2, h3⟩; have HP2 := Lib.hid h2; have HU2 := Lib.hid h3; clear h2 h3)
        clear HREP
        go_loopw [4] (fun i wl => ∃ (j : Nat), i = .int .i64 (j : Int) ∧ p ≤ j ∧ j ≤ p + 1 ∧ Hid (Pin wl w.heap.size (w.heap.size + 1) w.heap.size q T d j (prev l j)) ∧ Hid (Upd noBlock w wl)) (fun i _ => p + 1 - (intOfZ i).toNat)
        case atStart => exact ⟨p, rfl, Nat.le_refl _, by omega, HP2, HU2⟩
        case round =>
          clear HP2 HU2 HP HU
          obtain ⟨j, rfl, hj1, hj2, HPj, HUj⟩ := hrel
          obtain ⟨wl, rfl⟩ : ∃ wl : World, wl = wr := ⟨_, rfl⟩
          by_cases hjm : j < p + 1
          · have hji : (j : Int) < (p : Int) + 1 := by omega
            have HN : Hid (Calls Tryd.prog 46 #[.pointer (some ⟨w.heap.size + 1, 0, none⟩), .int .i64 (j : Int)] wl fun e w' => e = .returned (.tuple #[]) ∧ Pin w' w.heap.size (w.heap.size + 1) w.heap.size q T d (j + 1) (prev l (j + 1)) ∧ Upd noBlock w w') := by
              show Calls _ _ _ _ _
              refine (note_any l q HQ.out _ _ _ T d j _ j wl HPj.out hl (by omega) (by omega)).mono ?_
              rintro e w1 ⟨h1, h2, h3⟩
              exact ⟨h1, h2, h3 w (Nat.le_refl _) HUj.out⟩
            clear HPj HUj
            go_wp2_with (go_at_call 46; refine HN.out.mono ?_; rintro e w3 ⟨rfl, h2, h3⟩; have HP3 := Lib.hid h2; have HU3 := Lib.hid h3; clear h2 h3)
            go_roundw
            case rel => exact ⟨j + 1, by go_num, by omega, by omega, HP3, HU3⟩
            case measure => simp [intOfZ]; omega
          · obtain rfl : j = p + 1 := by omega
            go_wp2_with fail
            go_roundw
            case rel => exact ⟨p + 1, d, T, by go_num, by omega, by omega, HPj, HT, HR2, HUj⟩
            case measure => simp [intOfZ]; omega
      · obtain ⟨hr1, hr2, hr3, _⟩ := rep_spec l p (by omega)
        have HR2 : Hid (pk l l.length (p + (rep l p).2) (p + (rep l p).2) (litT l p T d p ++ copyT (p - (rep l p).1 - 1) (rep l p).2) = R) := by show _ = _; rw [← pk_more l p d T hlt h4]; exact HR.out
        have HLIT : Hid (∀ w1, Pin w1 w.heap.size (w.heap.size + 1) w.heap.size q T d p (prev l p) → Upd noBlock w w1 → Calls Tryd.prog 44 #[.pointer (some ⟨w.heap.size + 1, 0, none⟩), .int .i64 (p : Int)] w1 fun e w' => e = .returned (.tuple #[]) ∧ Pin w' w.heap.size (w.heap.size + 1) w.heap.size q (litT l p T d p) p p (prev l p) ∧ (litT l p T d p).length ≤ 2 * p ∧ Upd noBlock w w') := fun w1 hw hu => by
          refine (literals_any l q HQ.out _ _ _ T d p _ p w1 hw hl hp hdp HT.out).mono ?_
          rintro e w2 ⟨h1, h2, h3, h4⟩
          exact ⟨h1, h2, h3, h4 w (Nat.le_refl _) hu⟩
        generalize (rep l p).1 = frm at *
        generalize (rep l p).2 = m at *
        generalize hTL : litT l p T d p = TL at *
        obtain ⟨bk, hbk⟩ : ∃ bk, p - frm - 1 = bk := ⟨_, rfl⟩
        rw [hbk] at HR2
        have HCP : Hid (∀ w1, Pin w1 w.heap.size (w.heap.size + 1) w.heap.size q TL p p (prev l p) → TL.length ≤ 2 * p → Upd noBlock w w1 → Calls Tryd.prog 45 #[.pointer (some ⟨w.heap.size + 1, 0, none⟩), .int .i64 ((p : Int) - (frm : Int)), .int .i64 (m : Int)] w1 fun e w' => e = .returned (.tuple #[]) ∧ Pin w' w.heap.size (w.heap.size + 1) w.heap.size q (TL ++ copyT bk m) (p + m) p (prev l p) ∧ Upd noBlock w w') := fun w1 hw ht hu => by
          rw [show (p : Int) - (frm : Int) = (bk : Int) + 1 by omega]
          refine (copy_any _ _ _ q TL p p _ bk m w1 hw (by omega) hr2 (by omega) (by omega)).mono ?_
          rintro e w2 ⟨h1, h2, h3⟩
          exact ⟨h1, h2, h3 w (Nat.le_refl _) hu⟩
        have HT3 : Hid (TL.length ≤ 2 * p → (TL ++ copyT bk m).length ≤ 2 * (p + m)) := fun h => by
          rw [List.length_append]
          show TL.length + 3 ≤ _
          omega
        have h4' : ¬ (m : Int) < 4 := by omega
        clear hTL hbk
        go_wp2_with (first | (go_at_call 43; refine HREP.out.mono ?_; rintro e w1 ⟨rfl, h2, h3⟩; have HLX := Lib.hid (HLIT.out _ h2 h3); clear h2 h3) | (go_at_call 44; refine HLX.out.mono ?_; rintro e w2 ⟨rfl, h2, h3, h5⟩; have HCX := Lib.hid (HCP.out _ h2 h3 h5); have HT2 := Lib.hid (HT3.out h3); clear h2 h3 h5) | (go_at_call 45; refine HCX.out.mono ?_; rintro e w3 ⟨rfl, h2, h3⟩; have HP2 := Lib.hid h2; have HU2 := Lib.hid h3; clear h2 h3))
        clear HREP HLIT HCP HT3 HLX HCX
        generalize TL ++ copyT bk m = T2 at *
        go_loopw [4] (fun i wl => ∃ (j : Nat), i = .int .i64 (j : Int) ∧ p ≤ j ∧ j ≤ p + m ∧ Hid (Pin wl w.heap.size (w.heap.size + 1) w.heap.size q T2 (p + m) j (prev l j)) ∧ Hid (Upd noBlock w wl)) (fun i _ => p + m - (intOfZ i).toNat)
        case atStart => exact ⟨p, rfl, Nat.le_refl _, by omega, HP2, HU2⟩
        case round =>
          clear HP2 HU2 HP HU
          obtain ⟨j, rfl, hj1, hj2, HPj, HUj⟩ := hrel
          obtain ⟨wl, rfl⟩ : ∃ wl : World, wl = wr := ⟨_, rfl⟩
          by_cases hjm : j < p + m
          · have hji : (j : Int) < (p : Int) + (m : Int) := by omega
            have HN : Hid (Calls Tryd.prog 46 #[.pointer (some ⟨w.heap.size + 1, 0, none⟩), .int .i64 (j : Int)] wl fun e w' => e = .returned (.tuple #[]) ∧ Pin w' w.heap.size (w.heap.size + 1) w.heap.size q T2 (p + m) (j + 1) (prev l (j + 1)) ∧ Upd noBlock w w') := by
              show Calls _ _ _ _ _
              refine (note_any l q HQ.out _ _ _ T2 (p + m) j _ j wl HPj.out hl (by omega) (by omega)).mono ?_
              rintro e w1 ⟨h1, h2, h3⟩
              exact ⟨h1, h2, h3 w (Nat.le_refl _) HUj.out⟩
            clear HPj HUj
            go_wp2_with (go_at_call 46; refine HN.out.mono ?_; rintro e w3 ⟨rfl, h2, h3⟩; have HP3 := Lib.hid h2; have HU3 := Lib.hid h3; clear h2 h3)
            go_roundw
            case rel => exact ⟨j + 1, by go_num, by omega, by omega, HP3, HU3⟩
            case measure => simp [intOfZ]; omega
          · obtain rfl : j = p + m := by omega
            go_wp2_with fail
            go_roundw
            case rel => exact ⟨p + m, p + m, T2, by go_num, by omega, Nat.le_refl _, HPj, HT2, HR2, HUj⟩
            case measure => simp [intOfZ]; omega
    · obtain rfl : p = l.length := by omega
      have e1 : R = (T, d) := by rw [← HR.out]; exact pk_end l _ d T hlt
      have HLIT : Hid (Calls Tryd.prog 44 #[.pointer (some ⟨w.heap.size + 1, 0, none⟩), .int .i64 (l.length : Int)] wr fun e w' => e = .returned (.tuple #[]) ∧ (∃ v, w'.cell? ⟨w.heap.size + 1, 1, none⟩ = some v ∧ (convert 37 9 v).run Tryd.prog w' = .ok (.string ⟨PT.toArray⟩) w') ∧ Upd noBlock w w') := by
        show Calls _ _ _ _ _
        refine (literals_any l q HQ.out _ _ _ T d l.length _ l.length wr HP.out hl hp hdp HT.out).mono ?_
        rintro e w1 ⟨h1, h2, h3, h4⟩
        obtain ⟨v, k1, k2⟩ := h2.row
        refine ⟨h1, ⟨v, cell_of k1 1, ?_⟩, h4 w (Nat.le_refl _) HU.out⟩
        rw [HPK.out, e1]
        exact k2.text
      clear e1 HPK HR HP HT HU
      go_wp2_with (go_at_call 44; refine HLIT.out.mono ?_; rintro e w1 ⟨rfl, ⟨v, hv1, hv2⟩, h3⟩; have HU3 := Lib.hid h3; clear h3)
      go_ret
      exact ⟨rfl, HU3.out⟩

set_option maxRecDepth 20000 in
set_option maxHeartbeats 1600000 in
theorem Pack_any (l : List UInt8) (w : World) (hs : l.length ≤ 281474976710655) :
    Calls Tryd.prog 30 #[.string ⟨l.toArray⟩] w fun e w' => e = .returned (.string ⟨(packL l).toArray⟩) ∧ Upd noBlock w w' := by
  have hcat : ∀ (c : UInt8) (k : List UInt8), (ByteArray.mk #[c]) ++ (ByteArray.mk k.toArray) = ByteArray.mk (c :: k).toArray := fun c k => by
    apply ByteArray.ext; simp
  obtain ⟨q, hq⟩ : ∃ q : ByteArray, ⟨l.toArray⟩ = q := ⟨_, rfl⟩
  have hsz : q.size = l.length := by rw [← hq]; rfl
  by_cases h1 : l.length ≤ 65536
  · have HP := Lib.hid (fun w => pack_any l w h1)
    have h1' : decide ((l.length : Int) ≤ 65536) = true := decide_eq_true (by omega)
    obtain ⟨t, ht⟩ : ∃ t : ByteArray, ⟨(packT l).toArray⟩ = t := ⟨_, rfl⟩
    have htz : t.size = (packT l).length := by rw [← ht]; rfl
    by_cases h2 : (packT l).length < l.length
    · have e1 : packL l = 1 :: packT l := if_pos ⟨h1, h2⟩
      have e2 := hcat 1 (packT l)
      rw [ht] at e2
      rw [e1, ← e2, hq]
      rw [ht, hq] at HP
      have h2' : decide ((packT l).length < l.length) = true := decide_eq_true h2
      clear e1 e2 ht hq hcat
      generalize (packT l).length = tn at *
      go_enter Tryd.func30, Tryd.ntmps30
      go_wp2_with (go_at_call 37; refine (HP.out _).mono ?_; rintro e w1 ⟨rfl, hu⟩; have HU := Lib.hid hu; clear hu)
      go_ret
      exact ⟨rfl, HU.out⟩
    · have e1 : packL l = 0 :: l := if_neg (fun h => h2 h.2)
      have e2 := hcat 0 l
      rw [hq] at e2
      rw [e1, ← e2, hq]
      rw [ht, hq] at HP
      have h2' : decide ((packT l).length < l.length) = false := decide_eq_false h2
      clear e1 e2 ht hq hcat
      generalize (packT l).length = tn at *
      go_enter Tryd.func30, Tryd.ntmps30
      go_wp2_with (go_at_call 37; refine (HP.out _).mono ?_; rintro e w1 ⟨rfl, hu⟩; have HU := Lib.hid hu; clear hu)
      go_ret
      exact ⟨rfl, HU.out⟩
  · have e1 : packL l = 0 :: l := if_neg (fun h => h1 h.1)
    have e2 := hcat 0 l
    rw [hq] at e2
    rw [e1, ← e2, hq]
    have h1' : decide ((l.length : Int) ≤ 65536) = false := decide_eq_false (by omega)
    clear e1 e2 hq hcat
    go_enter Tryd.func30, Tryd.ntmps30
    go_wp2
    go_ret
    exact ⟨rfl, Upd.refl _ _⟩
end Go.Proofs.YtcfilepilgjlaaaDoor
