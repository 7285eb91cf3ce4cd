/- LzPacks, LzTwice. -/
import Derived.Test.YtmacafdfgfkhkaaZo
namespace Go.Proofs.Ytmacafdfgfkhkaa
open Go.RowKit

theorem cat_one (c : UInt8) (k : List UInt8) : (ByteArray.mk #[c]) ++ (ByteArray.mk k.toArray) = ByteArray.mk (c :: k).toArray := by
  apply ByteArray.ext; simp
theorem cat_two (k k' : List UInt8) : (ByteArray.mk k.toArray) ++ (ByteArray.mk k'.toArray) = ByteArray.mk (k ++ k').toArray := by
  apply ByteArray.ext; simp
set_option maxRecDepth 20000 in
set_option maxHeartbeats 1600000 in
theorem lzPacks_upd (s : ByteArray) (w : World) (hs : s.size ≤ 140737488351232) :
    Calls Try.prog 4 #[.string s] w fun e w' => e = .returned (.bool true) ∧ Upd noBlock w w' := by
  obtain ⟨l, rfl⟩ : ∃ l : List UInt8, s = ⟨l.toArray⟩ := ⟨s.data.toList, rfl⟩
  rw [sz_str] at hs
  have HS := Lib.hid speaks_any
  have HP := Lib.hid (fun w => Pack_any l w (by omega))
  have hpl := packL_len l
  obtain ⟨pb, hpb⟩ : ∃ pb : ByteArray, ⟨(packL l).toArray⟩ = pb := ⟨_, rfl⟩
  have hpz : pb.size = (packL l).length := by rw [← hpb]; rfl
  obtain ⟨q, hq⟩ : ∃ q : ByteArray, ⟨l.toArray⟩ = q := ⟨_, rfl⟩
  have hsz : q.size = l.length := by rw [← hq]; rfl
  by_cases h1 : l.length ≤ 65536
  · have hup := unpack_pack l h1
    have h3 := fun w => Unpack_any (packL l) (l.length : Int) w (by unfold maxLen; omega)
    have h4 := fun w => refUnpack_any (packL l) (l.length : Int) w (by unfold maxLen; omega)
    simp only [hup, hpb, hq] at h3 h4
    have H3 := Lib.hid h3
    have H4 := Lib.hid h4
    rw [hpb, hq] at HP
    rw [hq]
    generalize (packL l).length = pn at *
    have hd1 : ¬ (l.length : Int) + 1 < (pn : Int) := by omega
    have hd2 : ¬ (65536 : Int) < (l.length : Int) := by omega
    clear h3 h4 hup hpb hq
    go_enter Try.func4, Try.ntmps4
    go_wp2_with (first | (go_at_call 8; refine (HS.out _).mono ?_; rintro e w1 ⟨rfl, h⟩; have HA := Lib.hid h; clear h) | (go_at_call 11; have _t := HA; refine (HP.out _).mono ?_; rintro e w2 ⟨rfl, h⟩; have HB := Lib.hid (HA.out.trans h); clear h HA) | (go_at_call 11; refine (HP.out _).mono ?_; rintro e w3 ⟨rfl, h⟩; have HC := Lib.hid (HB.out.trans h); clear h HB) | (go_at_call 9; refine (H3.out _).mono ?_; rintro e w4 ⟨rfl, h⟩; have HD := Lib.hid (HC.out.trans h); clear h HC) | (go_at_call 10; refine (H4.out _).mono ?_; rintro e w5 ⟨rfl, h⟩; have HE := Lib.hid (HD.out.trans h); clear h HD))
    go_ret
    exact ⟨rfl, HE.out⟩
  · have e1 : packL l = 0 :: l := if_neg (fun h => h1 h.1)
    have e2 := cat_one 0 l
    rw [← e1, hpb, hq] at e2
    rw [hpb, hq] at HP
    rw [hq]
    generalize (packL l).length = pn at *
    have hd1 : ¬ (l.length : Int) + 1 < (pn : Int) := by omega
    have hd2 : (65536 : Int) < (l.length : Int) := by omega
    clear hpb hq e1
    go_enter Try.func4, Try.ntmps4
    go_wp2_with (first | (go_at_call 8; refine (HS.out _).mono ?_; rintro e w1 ⟨rfl, h⟩; have HA := Lib.hid h; clear h) | (go_at_call 11; have _t := HA; refine (HP.out _).mono ?_; rintro e w2 ⟨rfl, h⟩; have HB := Lib.hid (HA.out.trans h); clear h HA) | (go_at_call 11; refine (HP.out _).mono ?_; rintro e w3 ⟨rfl, h⟩; have HC := Lib.hid (HB.out.trans h); clear h HB))
    go_ret
    exact ⟨rfl, HC.out⟩
theorem lzPacks_walk (s : ByteArray) (w : World) (hs : s.size ≤ 140737488351232) :
    Calls Try.prog 4 #[.string s] w fun e w' => e = .returned (.bool true) ∧ Below w.heap.size w w' :=
  (lzPacks_upd s w hs).mono fun _ _ ⟨h, hu⟩ => ⟨h, hu.below (fun _ _ h => h)⟩

set_option maxRecDepth 20000 in
set_option maxHeartbeats 1600000 in
theorem lzTwice_upd (s : ByteArray) (w : World) (hs : s.size ≤ 140737488351232) :
    Calls Try.prog 7 #[.string s] w fun e w' => e = .returned (.bool true) ∧ Upd noBlock w w' := by
  obtain ⟨l, rfl⟩ : ∃ l : List UInt8, s = ⟨l.toArray⟩ := ⟨s.data.toList, rfl⟩
  rw [sz_str] at hs
  have HS := Lib.hid speaks_any
  obtain ⟨q, hq⟩ : ∃ q : ByteArray, ⟨l.toArray⟩ = q := ⟨_, rfl⟩
  have hsz : q.size = l.length := by rw [← hq]; rfl
  by_cases h1 : l.length ≤ 20000
  · have hd1 : ¬ (20000 : Int) < (l.length : Int) := by omega
    by_cases h2 : l.length < 3
    · have hd2 : (l.length : Int) < 3 := by omega
      rw [hq]
      clear hq
      go_enter Try.func7, Try.ntmps7
      go_wp2_with (go_at_call 8; refine (HS.out _).mono ?_; rintro e w1 ⟨rfl, h⟩; have HA := Lib.hid h; clear h)
      go_ret
      exact ⟨rfl, HA.out⟩
    · have hd2 : ¬ (l.length : Int) < 3 := by omega
      have hll : (l ++ l).length = l.length + l.length := List.length_append
      have HP := Lib.hid (fun w => Pack_any l w (by omega))
      have HP2 := Lib.hid (fun w => Pack_any (l ++ l) w (by omega))
      have hpl := packL_len l
      have hpl2 := packL_len (l ++ l)
      rw [hll] at hpl2
      obtain ⟨pb, hpb⟩ : ∃ pb : ByteArray, ⟨(packL l).toArray⟩ = pb := ⟨_, rfl⟩
      have hpz : pb.size = (packL l).length := by rw [← hpb]; rfl
      obtain ⟨pc, hpc⟩ : ∃ pb : ByteArray, ⟨(packL (l ++ l)).toArray⟩ = pb := ⟨_, rfl⟩
      have hpz2 : pc.size = (packL (l ++ l)).length := by rw [← hpc]; rfl
      obtain ⟨q2, hq2⟩ : ∃ q : ByteArray, ⟨(l ++ l).toArray⟩ = q := ⟨_, rfl⟩
      have hc2 := cat_two l l
      rw [hq, hq2] at hc2
      have hup := unpack_pack (l ++ l) (by omega)
      have h3 := fun w => Unpack_any (packL (l ++ l)) ((l ++ l).length : Int) w (by unfold maxLen; omega)
      have e2 : ((l ++ l).length : Int) = 2 * (l.length : Int) := by omega
      simp only [hup, hpc, hq2] at h3
      simp only [e2] at h3
      have H3 := Lib.hid h3
      rw [hpb, hq] at HP
      rw [hpc, hq2] at HP2
      rw [hq]
      generalize (packL l).length = pn at *
      generalize (packL (l ++ l)).length = pm at *
      have hd3 : (pm : Int) ≤ 2 * (l.length : Int) + 1 := by omega
      have hd4 : (pn : Int) ≤ (l.length : Int) + 1 := by omega
      clear h3 hup hpb hq hpc hq2 hll e2
      go_enter Try.func7, Try.ntmps7
      go_wp2_with (first | (go_at_call 8; refine (HS.out _).mono ?_; rintro e w1 ⟨rfl, h⟩; have HA := Lib.hid h; clear h) | (go_at_call 11; have _t := HA; refine (HP.out _).mono ?_; rintro e w2 ⟨rfl, h⟩; have HB := Lib.hid (HA.out.trans h); clear h HA) | (go_at_call 11; refine (HP2.out _).mono ?_; rintro e w3 ⟨rfl, h⟩; have HC := Lib.hid (HB.out.trans h); clear h HB) | (go_at_call 9; refine (H3.out _).mono ?_; rintro e w4 ⟨rfl, h⟩; have HD := Lib.hid (HC.out.trans h); clear h HC))
      go_ret
      exact ⟨rfl, HD.out⟩
  · have hd1 : (20000 : Int) < (l.length : Int) := by omega
    rw [hq]
    clear hq
    go_enter Try.func7, Try.ntmps7
    go_wp2_with (go_at_call 8; refine (HS.out _).mono ?_; rintro e w1 ⟨rfl, h⟩; have HA := Lib.hid h; clear h)
    go_ret
    exact ⟨rfl, HA.out⟩
theorem lzTwice_walk (s : ByteArray) (w : World) (hs : s.size ≤ 140737488351232) :
    Calls Try.prog 7 #[.string s] w fun e w' => e = .returned (.bool true) ∧ Below w.heap.size w w' :=
  (lzTwice_upd s w hs).mono fun _ _ ⟨h, hu⟩ => ⟨h, hu.below (fun _ _ h => h)⟩
end Go.Proofs.Ytmacafdfgfkhkaa
