/- LzCut. -/
import Derived.Test.YtmacafdfgfkhkaaZo
namespace Go.Proofs.Ytmacafdfgfkhkaa
open Go.RowKit

/-- a packed text cut short -/
theorem unpack_cut (l : List UInt8) (hl : l.length ≤ 65536) (k : Nat) (hk : k < (packL l).length) : unpackL ((packL l).take k) l.length = ([], 4) ∨ ∃ j, j < l.length ∧ unpackL ((packL l).take k) l.length = (l.take j, 0) := by
  have hm : (min (max (l.length : Int) 0) 65536).toNat = l.length := by omega
  cases k with
  | zero => exact .inl rfl
  | succ k =>
    unfold packL at hk ⊢
    by_cases h : l.length ≤ 65536 ∧ (packT l).length < l.length
    · rw [if_pos h] at hk ⊢
      rw [List.take_succ_cons]
      simp only [unpackL]
      rw [if_pos trivial, hm]
      exact (unp_cut l l.length _ (packT l) [] (Nat.le_refl _) (packT_unp l hl _ (Nat.le_refl _))).2.2 k (by simpa using hk)
    · rw [if_neg h] at hk ⊢
      have hk' : k < l.length := by simpa using hk
      rw [List.take_succ_cons]
      refine .inr ⟨k, hk', ?_⟩
      simp only [unpackL]
      rw [if_neg (by decide), if_pos trivial, hm, if_neg (by rw [List.length_take]; omega)]
set_option maxRecDepth 20000 in
set_option maxHeartbeats 1600000 in
theorem lzCut_upd (s : ByteArray) (at' : Int) (w : World) (hs : s.size ≤ 140737488351232) :
    Calls Try.prog 6 #[.string s, .int .i64 at'] w fun e w' => e = .returned (.bool true) ∧ Upd noBlock w w' := by
  obtain ⟨l, rfl⟩ : ∃ l : List UInt8, s = ⟨l.toArray⟩ := ⟨s.data.toList, rfl⟩
  rw [sz_str] at hs
  have HS := Lib.hid speaks_any
  have HP := Lib.hid (fun w => Pack_any l w (by omega))
  have hpl := packL_len l
  obtain ⟨q, hq⟩ : ∃ q : ByteArray, ⟨l.toArray⟩ = q := ⟨_, rfl⟩
  have hsz : q.size = l.length := by rw [← hq]; rfl
  obtain ⟨pb, hpb⟩ : ∃ pb : ByteArray, ⟨(packL l).toArray⟩ = pb := ⟨_, rfl⟩
  have hpz : pb.size = (packL l).length := by rw [← hpb]; rfl
  by_cases h1 : l.length ≤ 65536
  · have hd1 : ¬ (65536 : Int) < (l.length : Int) := by omega
    by_cases h2 : at' < 0
    · rw [hpb, hq] at HP
      rw [hq]
      generalize (packL l).length = pn at *
      clear hq hpb
      go_enter Try.func6, Try.ntmps6
      go_wp2_with (first | (go_at_call 8; refine (HS.out _).mono ?_; rintro e w1 ⟨rfl, h⟩; have HA := Lib.hid h; clear h) | (go_at_call 11; refine (HP.out _).mono ?_; rintro e w2 ⟨rfl, h⟩; have HB := Lib.hid (HA.out.trans h); clear h HA))
      go_ret
      exact ⟨rfl, HB.out⟩
    · obtain ⟨k, rfl⟩ : ∃ k : Nat, at' = (k : Int) := ⟨at'.toNat, by omega⟩
      by_cases h3 : (packL l).length ≤ k
      · rw [hpb, hq] at HP
        rw [hq]
        generalize (packL l).length = pn at *
        clear hq hpb
        go_enter Try.func6, Try.ntmps6
        go_wp2_with (first | (go_at_call 8; refine (HS.out _).mono ?_; rintro e w1 ⟨rfl, h⟩; have HA := Lib.hid h; clear h) | (go_at_call 11; refine (HP.out _).mono ?_; rintro e w2 ⟨rfl, h⟩; have HB := Lib.hid (HA.out.trans h); clear h HA))
        go_ret
        exact ⟨rfl, HB.out⟩
      · have h3' : k < (packL l).length := by omega
        have hcut := unpack_cut l h1 k h3'
        have h4 := fun w => Unpack_any ((packL l).take k) (l.length : Int) w (by rw [List.length_take]; unfold maxLen; omega)
        have hex : pb.extract 0 k = ⟨((packL l).take k).toArray⟩ := by
          rw [← hpb]; apply ByteArray.ext; apply Array.ext'; simp
        obtain ⟨ps, hps⟩ : ∃ ps : ByteArray, ⟨((packL l).take k).toArray⟩ = ps := ⟨_, rfl⟩
        simp only [hps] at h4
        rw [hps] at hex
        rw [hpb, hq] at HP
        rcases hcut with hc | ⟨j, hj, hc⟩
        · rw [hc] at h4
          have H4 := Lib.hid h4
          rw [hq]
          generalize (packL l).length = pn at *
          clear hq hpb hps h4 hc
          go_enter Try.func6, Try.ntmps6
          go_wp2_with (first | (go_at_call 8; refine (HS.out _).mono ?_; rintro e w1 ⟨rfl, h⟩; have HA := Lib.hid h; clear h) | (go_at_call 11; refine (HP.out _).mono ?_; rintro e w2 ⟨rfl, h⟩; have HB := Lib.hid (HA.out.trans h); clear h HA) | (go_at_call 9; refine (H4.out _).mono ?_; rintro e w4 ⟨rfl, h⟩; have HD := Lib.hid (HB.out.trans h); clear h HB))
          go_ret
          exact ⟨rfl, HD.out⟩
        · rw [hc] at h4
          obtain ⟨qj, hqj⟩ : ∃ qj : ByteArray, ⟨(l.take j).toArray⟩ = qj := ⟨_, rfl⟩
          have hjz : qj.size = j := by rw [← hqj, sz_str, List.length_take]; omega
          have hqe : q.extract 0 j = qj := by
            rw [← hq, ← hqj]; apply ByteArray.ext; apply Array.ext'; simp
          simp only [hqj] at h4
          have H4 := Lib.hid h4
          rw [hq]
          generalize (packL l).length = pn at *
          clear hq hpb hps h4 hc hqj
          go_enter Try.func6, Try.ntmps6
          go_wp2_with (first | (go_at_call 8; refine (HS.out _).mono ?_; rintro e w1 ⟨rfl, h⟩; have HA := Lib.hid h; clear h) | (go_at_call 11; refine (HP.out _).mono ?_; rintro e w2 ⟨rfl, h⟩; have HB := Lib.hid (HA.out.trans h); clear h HA) | (go_at_call 9; refine (H4.out _).mono ?_; rintro e w4 ⟨rfl, h⟩; have HD := Lib.hid (HB.out.trans h); clear h HB))
          go_ret
          exact ⟨rfl, HD.out⟩
  · have hd1 : (65536 : Int) < (l.length : Int) := by omega
    rw [hpb, hq] at HP
    rw [hq]
    generalize (packL l).length = pn at *
    clear hq hpb
    go_enter Try.func6, Try.ntmps6
    go_wp2_with (first | (go_at_call 8; refine (HS.out _).mono ?_; rintro e w1 ⟨rfl, h⟩; have HA := Lib.hid h; clear h) | (go_at_call 11; refine (HP.out _).mono ?_; rintro e w2 ⟨rfl, h⟩; have HB := Lib.hid (HA.out.trans h); clear h HA))
    go_ret
    exact ⟨rfl, HB.out⟩
theorem lzCut_walk (s : ByteArray) (at' : Int) (w : World) (hs : s.size ≤ 140737488351232) (_ : (Lit.int IntKind.i64 at').wf = true) :
    Calls Try.prog 6 #[.string s, .int .i64 at'] w fun e w' => e = .returned (.bool true) ∧ Below w.heap.size w w' :=
  (lzCut_upd s at' w hs).mono fun _ _ ⟨h, hu⟩ => ⟨h, hu.below (fun _ _ h => h)⟩
end Go.Proofs.Ytmacafdfgfkhkaa
