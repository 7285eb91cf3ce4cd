/- PackFull. -/
import Derived.Test.YtpbfealmhonbnaaQg
namespace Go.Proofs.Ytpbfealmhonbnaa
open Go.RowKit

theorem addQ1 (s : Nat) (H q : ByteArray) (h1 : q.size = 0) : addQ s H q = (⟨#[]⟩, false, 1, H, 0) := by unfold addQ; rw [if_pos h1]
theorem addQ2 (s : Nat) (H q : ByteArray) (h1 : ¬ q.size = 0) (h2 : s < q.size) : addQ s H q = (⟨#[]⟩, false, 2, H, 0) := by unfold addQ; rw [if_neg h1, if_pos h2]
theorem addQ3 (s : Nat) (H q : ByteArray) (h1 : ¬ q.size = 0) (h2 : ¬ s < q.size) (h3 : H.size + q.size ≤ s) : addQ s H q = (⟨#[]⟩, false, 0, H ++ q, 0) := by unfold addQ; rw [if_neg h1, if_neg h2, if_pos h3]
theorem addQ4 (s : Nat) (H q : ByteArray) (h1 : ¬ q.size = 0) (h2 : ¬ s < q.size) (h3 : ¬ H.size + q.size ≤ s) : addQ s H q = (H, true, 0, q, 1) := by unfold addQ; rw [if_neg h1, if_neg h2, if_neg h3]
theorem app_eq {A B : ByteArray} (h : A.data.toList = B.data.toList) : A = B := ByteArray.ext (Array.ext' h)
theorem app_nil (A : ByteArray) : A ++ ⟨#[]⟩ = A := app_eq (by rw [data_app]; simp)
theorem app_assoc (A B C : ByteArray) : A ++ B ++ C = A ++ (B ++ C) := app_eq (by rw [data_app, data_app, data_app, data_app, List.append_assoc])
set_option maxRecDepth 100000 in
set_option maxHeartbeats 3200000 in
theorem packFull_any (x : Int) (s : Nat) (hx : x < 1 ∧ s = 7 ∨ (1 ≤ x ∧ 2048 < x) ∧ s = 7 ∨ (1 ≤ x ∧ x ≤ 2048) ∧ x = (s : Int)) (a : Option Addr) (n c : Nat) (Ss : List ByteArray) (w : World) (hr : Strs w w.heap.size a n Ss) (hn : n ≤ 8796093021952) :
    Calls Try.prog 5 #[.int .i64 x, .slice a n c] w fun e w' => e = .returned (.bool true) ∧ Upd noBlock w w' := by
  have HS := Lib.hid hr
  have HN := Lib.hid hn
  have hnb : n ≤ 9223372036854775807 := by omega
  have HSP := Lib.hid (fun w => speaksQ w)
  have hs1 : 1 ≤ s := by omega
  have hs2 : s ≤ 2048 := by omega
  clear hr hn
  rcases hx with ⟨hx, h7⟩ | ⟨⟨hx0, hx⟩, h7⟩ | ⟨⟨hx0, hx⟩, rfl⟩
  · have HNW := Lib.hid (fun w => packNew 7 w (by decide) (by decide))
    rw [show szQ 7 = s from by rw [h7]; rfl] at HNW
    have h7a : s ≤ 7 := by omega
    have h7b : 7 ≤ s := by omega
    clear h7
    go_enter Try.func5, Try.ntmps5
    go_wp2_with (first
      | (go_at_call 6; (with_reducible refine (HSP.out _).mono ?_); rintro e w1 ⟨rfl, u1⟩; have U1 := Lib.hid u1; clear u1)
      | (go_at_call 7; (with_reducible refine (HNW.out _).mono ?_); rintro e w2 ⟨g, rfl, hg, hb, hu⟩; have HG := Lib.hid hg; have HB := Lib.hid hb; have HU := Lib.hid hu; clear hg hb hu))
    have HL0 : Hid (PL w w2 w2.heap.size g s ⟨#[]⟩ 0) :=
      ⟨PK.start HB.out (Upd.refl _ _) hs1 hs2 (lt_of_block HB.out) (Nat.le_refl _), U1.out.trans HU.out, (U1.out.trans HU.out).size, Nat.le_trans U1.out.size HG.out⟩
    generalize w2.heap.size = B at *
    clear HB HG HU U1 HNW HSP
    go_loopw [6, 7, 8] (fun va vo i wr => ∃ (k p : Nat) (H A O : ByteArray), va = .string A ∧ vo = .string O ∧ k ≤ n ∧ p ≤ k ∧ i = .int .i64 (k : Int) ∧ H.size ≤ s ∧ A.size ≤ k * 2048 ∧ O.size + H.size = A.size ∧ Hid (O ++ H = A) ∧ Hid (PL w wr B g s H p)) (fun _ _ i _ => n - (intOf i).toNat)
    case atStart => exact ⟨0, 0, ⟨#[]⟩, ⟨#[]⟩, ⟨#[]⟩, rfl, rfl, Nat.zero_le _, Nat.le_refl _, rfl, Nat.zero_le _, Nat.zero_le _, rfl, app_nil _, HL0⟩
    case round =>
      clear HL0
      obtain ⟨k, p, H, A, O, rfl, rfl, hk, hp, rfl, hH, hA, hO, HE, HK⟩ := hrel
      have hkn := HN.out
      by_cases h0 : k < n
      · have HSr := Lib.hid (HS.out.grow HK.out.up (Nat.le_refl _))
        obtain ⟨b, off, hab, hb, hc⟩ := HSr.out.cell (by omega)
        subst hab
        have hsz := HSr.out.at h0
        obtain ⟨q, hq⟩ : ∃ q, Ss.getD k ⟨#[]⟩ = q := ⟨_, rfl⟩
        have HC : Hid (∀ W : World, Upd noBlock w W → W.cell? ⟨b, off + k, none⟩ = some (.string q)) := fun W hu => by
          obtain ⟨b', off', e, hb', hc'⟩ := (HS.out.grow hu (Nat.le_refl _)).cell (by omega)
          simp only [Option.some.injEq, Addr.mk.injEq] at e
          obtain ⟨rfl, rfl, _⟩ := e
          rw [← hq]; exact hc' k h0
        have c1 := HC.out wr HK.out.up
        rw [hq] at hsz
        have hq9 : q.size ≤ 9223372036854775807 := hsz
        have HAD := Lib.hid (add_any B g s p H q wr HK.out.pk hsz (by omega))
        have e9 := empQ q
        clear hc hq hsz HSr
        by_cases g1 : q.size = 0
        · rw [decide_eq_true g1] at e9
          rw [addQ1 s H q g1] at HAD
          have hcO : ¬ 9223372036854775807 < O.size + (ByteArray.mk #[]).size := by show ¬ _ < O.size + 0; omega
          have hcP : ¬ 9223372036854775807 < O.size + 0 := by omega
          go_wp2_with (go_at_call 11; (with_reducible refine HAD.out.mono ?_); rintro e w3 ⟨rfl, hp3, ht3⟩; have HK3 := Lib.hid (HK.out.turn (H' := H) hp3 ht3); clear hp3 ht3; have c3 := HC.out w3 HK3.out.up)
          go_roundw
          case rel => exact ⟨k + 1, p + 0, H, A, (O ++ ⟨#[]⟩), rfl, rfl, by omega, by omega, by go_num, hH, by omega, by rw [size_app]; exact hO, (show Hid _ from by rw [app_nil]; exact HE), HK3⟩
          case measure => simp [intOf]; omega
        · rw [decide_eq_false g1] at e9
          by_cases g2 : s < q.size
          · rw [addQ2 s H q g1 g2] at HAD
            have hcO : ¬ 9223372036854775807 < O.size + (ByteArray.mk #[]).size := by show ¬ _ < O.size + 0; omega
            have hcP : ¬ 9223372036854775807 < O.size + 0 := by omega
            go_wp2_with (go_at_call 11; (with_reducible refine HAD.out.mono ?_); rintro e w3 ⟨rfl, hp3, ht3⟩; have HK3 := Lib.hid (HK.out.turn (H' := H) hp3 ht3); clear hp3 ht3; have c3 := HC.out w3 HK3.out.up)
            go_roundw
            case rel => exact ⟨k + 1, p + 0, H, A, (O ++ ⟨#[]⟩), rfl, rfl, by omega, by omega, by go_num, hH, by omega, by rw [size_app]; exact hO, (show Hid _ from by rw [app_nil]; exact HE), HK3⟩
            case measure => simp [intOf]; omega
          · by_cases g3 : H.size + q.size ≤ s
            · rw [addQ3 s H q g1 g2 g3] at HAD
              have hcO : ¬ 9223372036854775807 < O.size + (ByteArray.mk #[]).size := by show ¬ _ < O.size + 0; omega
              have hcP : ¬ 9223372036854775807 < O.size + 0 := by omega
              have e7 : decide ((q.size : Int) ≤ 7) = true := decide_eq_true (by omega)
              have e7n : decide (q.size ≤ s) = true := decide_eq_true (by omega)
              have hcA : ¬ 9223372036854775807 < A.size + q.size := by omega
              go_wp2_with (go_at_call 11; (with_reducible refine HAD.out.mono ?_); rintro e w3 ⟨rfl, hp3, ht3⟩; have HK3 := Lib.hid (HK.out.turn (H' := (H ++ q)) hp3 ht3); clear hp3 ht3; have c3 := HC.out w3 HK3.out.up)
              go_roundw
              case rel => exact ⟨k + 1, p + 0, (H ++ q), (A ++ q), (O ++ ⟨#[]⟩), rfl, rfl, by omega, by omega, by go_num, by rw [size_app]; exact g3, by rw [size_app]; omega, by rw [size_app, size_app, size_app]; show O.size + 0 + _ = _; omega, (show Hid _ from (by rw [app_nil, ← app_assoc, HE.out] : _ = _)), HK3⟩
              case measure => simp [intOf]; omega
            · rw [addQ4 s H q g1 g2 g3] at HAD
              have hcO : ¬ 9223372036854775807 < O.size + H.size := by omega
              have e7 : decide ((q.size : Int) ≤ 7) = true := decide_eq_true (by omega)
              have e7n : decide (q.size ≤ s) = true := decide_eq_true (by omega)
              have e8 : decide (7 < (H.size : Int)) = false := decide_eq_false (by omega)
              have e8n : decide (s < H.size) = false := decide_eq_false (by omega)
              have e6 : decide ((H.size : Int) + (q.size : Int) ≤ 7) = false := decide_eq_false (by omega)
              have hcA : ¬ 9223372036854775807 < A.size + q.size := by omega
              go_wp2_with (go_at_call 11; (with_reducible refine HAD.out.mono ?_); rintro e w3 ⟨rfl, hp3, ht3⟩; have HK3 := Lib.hid (HK.out.turn (H' := q) hp3 ht3); clear hp3 ht3; have c3 := HC.out w3 HK3.out.up)
              go_roundw
              case rel => exact ⟨k + 1, p + 1, q, (A ++ q), (O ++ H), rfl, rfl, by omega, by omega, by go_num, by omega, by rw [size_app]; omega, by rw [size_app, size_app]; omega, (show Hid _ from (by rw [HE.out] : _ = _)), HK3⟩
              case measure => simp [intOf]; omega
      · obtain rfl : k = n := by omega
        have hend : ((O ++ H).toList == A.toList) = true := by rw [HE.out]; simp
        have HF := Lib.hid (flush_any B g s p H wr HK.out.pk (by omega))
        go_wp2_with (go_at_call 9; (with_reducible refine HF.out.mono ?_); rintro e w5 ⟨rfl, hp5, ht5⟩; have HK5 := Lib.hid (HK.out.turn (H' := ⟨#[]⟩) hp5 ht5); clear hp5 ht5)
        go_ret
        exact ⟨rfl, HK5.out.up⟩
  · have HNW := Lib.hid (fun w => packNew 7 w (by decide) (by decide))
    rw [show szQ 7 = s from by rw [h7]; rfl] at HNW
    have h7a : s ≤ 7 := by omega
    have h7b : 7 ≤ s := by omega
    clear h7
    go_enter Try.func5, Try.ntmps5
    go_wp2_with (first
      | (go_at_call 6; (with_reducible refine (HSP.out _).mono ?_); rintro e w1 ⟨rfl, u1⟩; have U1 := Lib.hid u1; clear u1)
      | (go_at_call 7; (with_reducible refine (HNW.out _).mono ?_); rintro e w2 ⟨g, rfl, hg, hb, hu⟩; have HG := Lib.hid hg; have HB := Lib.hid hb; have HU := Lib.hid hu; clear hg hb hu))
    have HL0 : Hid (PL w w2 w2.heap.size g s ⟨#[]⟩ 0) :=
      ⟨PK.start HB.out (Upd.refl _ _) hs1 hs2 (lt_of_block HB.out) (Nat.le_refl _), U1.out.trans HU.out, (U1.out.trans HU.out).size, Nat.le_trans U1.out.size HG.out⟩
    generalize w2.heap.size = B at *
    clear HB HG HU U1 HNW HSP
    go_loopw [6, 7, 8] (fun va vo i wr => ∃ (k p : Nat) (H A O : ByteArray), va = .string A ∧ vo = .string O ∧ k ≤ n ∧ p ≤ k ∧ i = .int .i64 (k : Int) ∧ H.size ≤ s ∧ A.size ≤ k * 2048 ∧ O.size + H.size = A.size ∧ Hid (O ++ H = A) ∧ Hid (PL w wr B g s H p)) (fun _ _ i _ => n - (intOf i).toNat)
    case atStart => exact ⟨0, 0, ⟨#[]⟩, ⟨#[]⟩, ⟨#[]⟩, rfl, rfl, Nat.zero_le _, Nat.le_refl _, rfl, Nat.zero_le _, Nat.zero_le _, rfl, app_nil _, HL0⟩
    case round =>
      clear HL0
      obtain ⟨k, p, H, A, O, rfl, rfl, hk, hp, rfl, hH, hA, hO, HE, HK⟩ := hrel
      have hkn := HN.out
      by_cases h0 : k < n
      · have HSr := Lib.hid (HS.out.grow HK.out.up (Nat.le_refl _))
        obtain ⟨b, off, hab, hb, hc⟩ := HSr.out.cell (by omega)
        subst hab
        have hsz := HSr.out.at h0
        obtain ⟨q, hq⟩ : ∃ q, Ss.getD k ⟨#[]⟩ = q := ⟨_, rfl⟩
        have HC : Hid (∀ W : World, Upd noBlock w W → W.cell? ⟨b, off + k, none⟩ = some (.string q)) := fun W hu => by
          obtain ⟨b', off', e, hb', hc'⟩ := (HS.out.grow hu (Nat.le_refl _)).cell (by omega)
          simp only [Option.some.injEq, Addr.mk.injEq] at e
          obtain ⟨rfl, rfl, _⟩ := e
          rw [← hq]; exact hc' k h0
        have c1 := HC.out wr HK.out.up
        rw [hq] at hsz
        have hq9 : q.size ≤ 9223372036854775807 := hsz
        have HAD := Lib.hid (add_any B g s p H q wr HK.out.pk hsz (by omega))
        have e9 := empQ q
        clear hc hq hsz HSr
        by_cases g1 : q.size = 0
        · rw [decide_eq_true g1] at e9
          rw [addQ1 s H q g1] at HAD
          have hcO : ¬ 9223372036854775807 < O.size + (ByteArray.mk #[]).size := by show ¬ _ < O.size + 0; omega
          have hcP : ¬ 9223372036854775807 < O.size + 0 := by omega
          go_wp2_with (go_at_call 11; (with_reducible refine HAD.out.mono ?_); rintro e w3 ⟨rfl, hp3, ht3⟩; have HK3 := Lib.hid (HK.out.turn (H' := H) hp3 ht3); clear hp3 ht3; have c3 := HC.out w3 HK3.out.up)
          go_roundw
          case rel => exact ⟨k + 1, p + 0, H, A, (O ++ ⟨#[]⟩), rfl, rfl, by omega, by omega, by go_num, hH, by omega, by rw [size_app]; exact hO, (show Hid _ from by rw [app_nil]; exact HE), HK3⟩
          case measure => simp [intOf]; omega
        · rw [decide_eq_false g1] at e9
          by_cases g2 : s < q.size
          · rw [addQ2 s H q g1 g2] at HAD
            have hcO : ¬ 9223372036854775807 < O.size + (ByteArray.mk #[]).size := by show ¬ _ < O.size + 0; omega
            have hcP : ¬ 9223372036854775807 < O.size + 0 := by omega
            go_wp2_with (go_at_call 11; (with_reducible refine HAD.out.mono ?_); rintro e w3 ⟨rfl, hp3, ht3⟩; have HK3 := Lib.hid (HK.out.turn (H' := H) hp3 ht3); clear hp3 ht3; have c3 := HC.out w3 HK3.out.up)
            go_roundw
            case rel => exact ⟨k + 1, p + 0, H, A, (O ++ ⟨#[]⟩), rfl, rfl, by omega, by omega, by go_num, hH, by omega, by rw [size_app]; exact hO, (show Hid _ from by rw [app_nil]; exact HE), HK3⟩
            case measure => simp [intOf]; omega
          · by_cases g3 : H.size + q.size ≤ s
            · rw [addQ3 s H q g1 g2 g3] at HAD
              have hcO : ¬ 9223372036854775807 < O.size + (ByteArray.mk #[]).size := by show ¬ _ < O.size + 0; omega
              have hcP : ¬ 9223372036854775807 < O.size + 0 := by omega
              have e7 : decide ((q.size : Int) ≤ 7) = true := decide_eq_true (by omega)
              have e7n : decide (q.size ≤ s) = true := decide_eq_true (by omega)
              have hcA : ¬ 9223372036854775807 < A.size + q.size := by omega
              go_wp2_with (go_at_call 11; (with_reducible refine HAD.out.mono ?_); rintro e w3 ⟨rfl, hp3, ht3⟩; have HK3 := Lib.hid (HK.out.turn (H' := (H ++ q)) hp3 ht3); clear hp3 ht3; have c3 := HC.out w3 HK3.out.up)
              go_roundw
              case rel => exact ⟨k + 1, p + 0, (H ++ q), (A ++ q), (O ++ ⟨#[]⟩), rfl, rfl, by omega, by omega, by go_num, by rw [size_app]; exact g3, by rw [size_app]; omega, by rw [size_app, size_app, size_app]; show O.size + 0 + _ = _; omega, (show Hid _ from (by rw [app_nil, ← app_assoc, HE.out] : _ = _)), HK3⟩
              case measure => simp [intOf]; omega
            · rw [addQ4 s H q g1 g2 g3] at HAD
              have hcO : ¬ 9223372036854775807 < O.size + H.size := by omega
              have e7 : decide ((q.size : Int) ≤ 7) = true := decide_eq_true (by omega)
              have e7n : decide (q.size ≤ s) = true := decide_eq_true (by omega)
              have e8 : decide (7 < (H.size : Int)) = false := decide_eq_false (by omega)
              have e8n : decide (s < H.size) = false := decide_eq_false (by omega)
              have e6 : decide ((H.size : Int) + (q.size : Int) ≤ 7) = false := decide_eq_false (by omega)
              have hcA : ¬ 9223372036854775807 < A.size + q.size := by omega
              go_wp2_with (go_at_call 11; (with_reducible refine HAD.out.mono ?_); rintro e w3 ⟨rfl, hp3, ht3⟩; have HK3 := Lib.hid (HK.out.turn (H' := q) hp3 ht3); clear hp3 ht3; have c3 := HC.out w3 HK3.out.up)
              go_roundw
              case rel => exact ⟨k + 1, p + 1, q, (A ++ q), (O ++ H), rfl, rfl, by omega, by omega, by go_num, by omega, by rw [size_app]; omega, by rw [size_app, size_app]; omega, (show Hid _ from (by rw [HE.out] : _ = _)), HK3⟩
              case measure => simp [intOf]; omega
      · obtain rfl : k = n := by omega
        have hend : ((O ++ H).toList == A.toList) = true := by rw [HE.out]; simp
        have HF := Lib.hid (flush_any B g s p H wr HK.out.pk (by omega))
        go_wp2_with (go_at_call 9; (with_reducible refine HF.out.mono ?_); rintro e w5 ⟨rfl, hp5, ht5⟩; have HK5 := Lib.hid (HK.out.turn (H' := ⟨#[]⟩) hp5 ht5); clear hp5 ht5)
        go_ret
        exact ⟨rfl, HK5.out.up⟩
  · have HNW := Lib.hid (fun w => packNew (s : Int) w (by omega) (by omega))
    rw [show szQ (s : Int) = s from by unfold szQ; omega] at HNW
    go_enter Try.func5, Try.ntmps5
    go_wp2_with (first
      | (go_at_call 6; (with_reducible refine (HSP.out _).mono ?_); rintro e w1 ⟨rfl, u1⟩; have U1 := Lib.hid u1; clear u1)
      | (go_at_call 7; (with_reducible refine (HNW.out _).mono ?_); rintro e w2 ⟨g, rfl, hg, hb, hu⟩; have HG := Lib.hid hg; have HB := Lib.hid hb; have HU := Lib.hid hu; clear hg hb hu))
    have HL0 : Hid (PL w w2 w2.heap.size g s ⟨#[]⟩ 0) :=
      ⟨PK.start HB.out (Upd.refl _ _) hs1 hs2 (lt_of_block HB.out) (Nat.le_refl _), U1.out.trans HU.out, (U1.out.trans HU.out).size, Nat.le_trans U1.out.size HG.out⟩
    generalize w2.heap.size = B at *
    clear HB HG HU U1 HNW HSP
    go_loopw [6, 7, 8] (fun va vo i wr => ∃ (k p : Nat) (H A O : ByteArray), va = .string A ∧ vo = .string O ∧ k ≤ n ∧ p ≤ k ∧ i = .int .i64 (k : Int) ∧ H.size ≤ s ∧ A.size ≤ k * 2048 ∧ O.size + H.size = A.size ∧ Hid (O ++ H = A) ∧ Hid (PL w wr B g s H p)) (fun _ _ i _ => n - (intOf i).toNat)
    case atStart => exact ⟨0, 0, ⟨#[]⟩, ⟨#[]⟩, ⟨#[]⟩, rfl, rfl, Nat.zero_le _, Nat.le_refl _, rfl, Nat.zero_le _, Nat.zero_le _, rfl, app_nil _, HL0⟩
    case round =>
      clear HL0
      obtain ⟨k, p, H, A, O, rfl, rfl, hk, hp, rfl, hH, hA, hO, HE, HK⟩ := hrel
      have hkn := HN.out
      by_cases h0 : k < n
      · have HSr := Lib.hid (HS.out.grow HK.out.up (Nat.le_refl _))
        obtain ⟨b, off, hab, hb, hc⟩ := HSr.out.cell (by omega)
        subst hab
        have hsz := HSr.out.at h0
        obtain ⟨q, hq⟩ : ∃ q, Ss.getD k ⟨#[]⟩ = q := ⟨_, rfl⟩
        have HC : Hid (∀ W : World, Upd noBlock w W → W.cell? ⟨b, off + k, none⟩ = some (.string q)) := fun W hu => by
          obtain ⟨b', off', e, hb', hc'⟩ := (HS.out.grow hu (Nat.le_refl _)).cell (by omega)
          simp only [Option.some.injEq, Addr.mk.injEq] at e
          obtain ⟨rfl, rfl, _⟩ := e
          rw [← hq]; exact hc' k h0
        have c1 := HC.out wr HK.out.up
        rw [hq] at hsz
        have hq9 : q.size ≤ 9223372036854775807 := hsz
        have HAD := Lib.hid (add_any B g s p H q wr HK.out.pk hsz (by omega))
        have e9 := empQ q
        clear hc hq hsz HSr
        by_cases g1 : q.size = 0
        · rw [decide_eq_true g1] at e9
          rw [addQ1 s H q g1] at HAD
          have hcO : ¬ 9223372036854775807 < O.size + (ByteArray.mk #[]).size := by show ¬ _ < O.size + 0; omega
          have hcP : ¬ 9223372036854775807 < O.size + 0 := by omega
          go_wp2_with (go_at_call 11; (with_reducible refine HAD.out.mono ?_); rintro e w3 ⟨rfl, hp3, ht3⟩; have HK3 := Lib.hid (HK.out.turn (H' := H) hp3 ht3); clear hp3 ht3; have c3 := HC.out w3 HK3.out.up)
          go_roundw
          case rel => exact ⟨k + 1, p + 0, H, A, (O ++ ⟨#[]⟩), rfl, rfl, by omega, by omega, by go_num, hH, by omega, by rw [size_app]; exact hO, (show Hid _ from by rw [app_nil]; exact HE), HK3⟩
          case measure => simp [intOf]; omega
        · rw [decide_eq_false g1] at e9
          by_cases g2 : s < q.size
          · rw [addQ2 s H q g1 g2] at HAD
            have hcO : ¬ 9223372036854775807 < O.size + (ByteArray.mk #[]).size := by show ¬ _ < O.size + 0; omega
            have hcP : ¬ 9223372036854775807 < O.size + 0 := by omega
            go_wp2_with (go_at_call 11; (with_reducible refine HAD.out.mono ?_); rintro e w3 ⟨rfl, hp3, ht3⟩; have HK3 := Lib.hid (HK.out.turn (H' := H) hp3 ht3); clear hp3 ht3; have c3 := HC.out w3 HK3.out.up)
            go_roundw
            case rel => exact ⟨k + 1, p + 0, H, A, (O ++ ⟨#[]⟩), rfl, rfl, by omega, by omega, by go_num, hH, by omega, by rw [size_app]; exact hO, (show Hid _ from by rw [app_nil]; exact HE), HK3⟩
            case measure => simp [intOf]; omega
          · by_cases g3 : H.size + q.size ≤ s
            · rw [addQ3 s H q g1 g2 g3] at HAD
              have hcO : ¬ 9223372036854775807 < O.size + (ByteArray.mk #[]).size := by show ¬ _ < O.size + 0; omega
              have hcP : ¬ 9223372036854775807 < O.size + 0 := by omega
              have e7 : decide ((q.size : Int) ≤ (s : Int)) = true := decide_eq_true (by omega)
              have e7n : decide (q.size ≤ s) = true := decide_eq_true (by omega)
              have hcA : ¬ 9223372036854775807 < A.size + q.size := by omega
              go_wp2_with (go_at_call 11; (with_reducible refine HAD.out.mono ?_); rintro e w3 ⟨rfl, hp3, ht3⟩; have HK3 := Lib.hid (HK.out.turn (H' := (H ++ q)) hp3 ht3); clear hp3 ht3; have c3 := HC.out w3 HK3.out.up)
              go_roundw
              case rel => exact ⟨k + 1, p + 0, (H ++ q), (A ++ q), (O ++ ⟨#[]⟩), rfl, rfl, by omega, by omega, by go_num, by rw [size_app]; exact g3, by rw [size_app]; omega, by rw [size_app, size_app, size_app]; show O.size + 0 + _ = _; omega, (show Hid _ from (by rw [app_nil, ← app_assoc, HE.out] : _ = _)), HK3⟩
              case measure => simp [intOf]; omega
            · rw [addQ4 s H q g1 g2 g3] at HAD
              have hcO : ¬ 9223372036854775807 < O.size + H.size := by omega
              have e7 : decide ((q.size : Int) ≤ (s : Int)) = true := decide_eq_true (by omega)
              have e7n : decide (q.size ≤ s) = true := decide_eq_true (by omega)
              have e8 : decide ((s : Int) < (H.size : Int)) = false := decide_eq_false (by omega)
              have e8n : decide (s < H.size) = false := decide_eq_false (by omega)
              have e6 : decide ((H.size : Int) + (q.size : Int) ≤ (s : Int)) = false := decide_eq_false (by omega)
              have hcA : ¬ 9223372036854775807 < A.size + q.size := by omega
              go_wp2_with (go_at_call 11; (with_reducible refine HAD.out.mono ?_); rintro e w3 ⟨rfl, hp3, ht3⟩; have HK3 := Lib.hid (HK.out.turn (H' := q) hp3 ht3); clear hp3 ht3; have c3 := HC.out w3 HK3.out.up)
              go_roundw
              case rel => exact ⟨k + 1, p + 1, q, (A ++ q), (O ++ H), rfl, rfl, by omega, by omega, by go_num, by omega, by rw [size_app]; omega, by rw [size_app, size_app]; omega, (show Hid _ from (by rw [HE.out] : _ = _)), HK3⟩
              case measure => simp [intOf]; omega
      · obtain rfl : k = n := by omega
        have hend : ((O ++ H).toList == A.toList) = true := by rw [HE.out]; simp
        have HF := Lib.hid (flush_any B g s p H wr HK.out.pk (by omega))
        go_wp2_with (go_at_call 9; (with_reducible refine HF.out.mono ?_); rintro e w5 ⟨rfl, hp5, ht5⟩; have HK5 := Lib.hid (HK.out.turn (H' := ⟨#[]⟩) hp5 ht5); clear hp5 ht5)
        go_ret
        exact ⟨rfl, HK5.out.up⟩
theorem packFull_walk (x : Int) (a : Option Addr) (n c : Nat) (Ss : List ByteArray) (w : World) (_ : (Lit.int .i64 x).wf = true) (hr : Strs w w.heap.size a n Ss) (hn : n ≤ 8796093021952) :
    Calls Try.prog 5 #[.int .i64 x, .slice a n c] w fun e w' => e = .returned (.bool true) ∧ Below w.heap.size w w' := by
  refine Calls.mono ?_ fun _ _ (h : _ ∧ Upd noBlock w _) => ⟨h.1, h.2.below (fun _ _ h => h)⟩
  by_cases h1 : x < 1
  · exact packFull_any x 7 (.inl ⟨h1, rfl⟩) a n c Ss w hr hn
  · by_cases h2 : 2048 < x
    · exact packFull_any x 7 (.inr (.inl ⟨⟨by omega, h2⟩, rfl⟩)) a n c Ss w hr hn
    · exact packFull_any x x.toNat (.inr (.inr ⟨⟨by omega, by omega⟩, by omega⟩)) a n c Ss w hr hn
end Go.Proofs.Ytpbfealmhonbnaa
