/- The program's Split. -/
import Derived.Test.YtdbjinakbbiimaaDoorYc
namespace Go.Proofs.YtdbjinakbbiimaaDoor
open Go.RowKit
set_option linter.unusedVariables false

theorem splitA_none {p : List UInt8} {x : Int} {w w' : World} (h : Pt.splitP p = ([], x)) (hu : Upd noBlock w w') : SplitA p w (.returned (.tuple #[.slice none 0 0, .int .i64 x])) w' := by
  unfold SplitA
  rw [h]
  exact ⟨none, 0, 0, rfl, strs_nil _ _ _, Nat.le_refl _, hu, OwnS.nil _ _ _⟩
theorem own_block {w : World} {B g n : Nat} {e : TypeId} {Ss : List ByteArray} (h : w.heap[g]? = some (.cells (Ss.map Value.string).toArray e (0, 0))) (hB : B ≤ g) (hn : Ss.length = n) (hm : n ≤ maxLen) : OwnS w B e (.slice (some ⟨g, 0, none⟩) n n) Ss := by
  subst hn
  exact ⟨by simp, .inr ⟨g, Ss.length, _, rfl, hB, h, Nat.le_refl _, hm, by simp, by rw [Nat.mul_one]; exact List.take_of_length_le (by simp)⟩⟩
theorem list_one {l : List UInt8} (h : l.length = 1) (hh : (l.head? == some 47) = true) : l = [47] := by
  cases l with
  | nil => cases h
  | cons c t =>
    have : t = [] := by simpa using h
    subst this
    have : c = 47 := by simpa using hh
    rw [this]
set_option maxRecDepth 100000 in
set_option maxHeartbeats 800000 in
theorem split_off (s : ByteArray) (w : World) (hs : s.size ≤ maxLen) (h : Pt.headOk s.data.toList = false) : Calls Tryd.prog 8 #[.string s] w (SplitA s.data.toList w) := by
  have HP := Lib.hid (Tryd.strings_HasPrefix s ⟨#[47]⟩ w)
  rw [hasPrefix_slash] at HP
  have HE : Hid (Pt.splitP s.data.toList = ([], 107)) := by show _ = _; unfold Pt.splitP; rw [h, if_neg (by decide)]
  have hnot : ∀ (x : Bool) (w : World), (Op.unary .not (.bool x)).run Tryd.prog w = .ok (.bool (!x)) w := fun _ _ => rfl
  unfold maxLen at hs
  cases hb : (s.data.toList.head? == some 47)
  · rw [hb] at HP
    clear hb h
    generalize s.data.toList = l at *
    go_enter Tryd.func8, Tryd.ntmps8
    go_wp2_with (go_at_call 15; (with_reducible refine HP.out.mono ?_); rintro e w1 ⟨rfl, hw1⟩; obtain rfl := hw1.symm)
    go_ret2
    exact splitA_none HE.out (Upd.refl _ _)
  · have hl : ¬ s.size ≤ 256 := by
      intro hle
      unfold Pt.headOk at h
      rw [hb, decide_eq_true (show s.data.toList.length ≤ 256 from hle)] at h
      exact absurd h (by decide)
    have hlt : 256 < (s.size : Int) := by omega
    rw [hb] at HP
    clear hb h hl
    generalize s.data.toList = l at *
    go_enter Tryd.func8, Tryd.ntmps8
    go_wp2_with (go_at_call 15; (with_reducible refine HP.out.mono ?_); rintro e w1 ⟨rfl, hw1⟩; obtain rfl := hw1.symm)
    go_ret2
    exact splitA_none HE.out (Upd.refl _ _)
set_option maxRecDepth 100000 in
set_option maxHeartbeats 800000 in
theorem split_root (s : ByteArray) (w : World) (hs : s.data.toList = [47]) : Calls Tryd.prog 8 #[.string s] w (SplitA s.data.toList w) := by
  have HP := Lib.hid (Tryd.strings_HasPrefix s ⟨#[47]⟩ w)
  rw [hasPrefix_slash, hs] at HP
  have HE : Hid (Pt.splitP s.data.toList = ([], 0)) := by show _ = _; rw [hs]; decide
  have hnot : ∀ (x : Bool) (w : World), (Op.unary .not (.bool x)).run Tryd.prog w = .ok (.bool (!x)) w := fun _ _ => rfl
  have hz : s.size ≤ 256 := by
    have : s.data.toList.length = s.size := rfl
    rw [hs] at this
    have h1 : ([47] : List UInt8).length = 1 := rfl
    omega
  have h1 : (s.toList == [47]) = true := by rw [Lib.toList_data, hs]; rfl
  clear hs
  generalize s.data.toList = l at *
  go_enter Tryd.func8, Tryd.ntmps8
  go_wp2_with (go_at_call 15; (with_reducible refine HP.out.mono ?_); rintro e w1 ⟨rfl, hw1⟩; obtain rfl := hw1.symm)
  go_ret2
  exact splitA_none HE.out (Upd.refl _ _)
set_option maxRecDepth 100000 in
set_option maxHeartbeats 1600000 in
theorem split_on (s : ByteArray) (w : World) (hm : Ml w) (h : Pt.headOk s.data.toList = true) (hne : s.data.toList.length ≠ 1) : Calls Tryd.prog 8 #[.string s] w (SplitA s.data.toList w) := by
  obtain ⟨m, hm⟩ := hm
  have HP := Lib.hid (Tryd.strings_HasPrefix s ⟨#[47]⟩ w)
  rw [hasPrefix_slash] at HP
  have h' := h
  unfold Pt.headOk at h'
  simp only [Bool.and_eq_true, decide_eq_true_eq] at h'
  obtain ⟨hh, hl⟩ := h'
  rw [hh] at HP
  have hz : s.size ≤ 256 := hl
  have hz1 : s.size ≠ 1 := hne
  have hz0 : 1 ≤ s.size := by
    have e : s.data.toList.length = s.size := rfl
    rcases Nat.eq_zero_or_pos s.size with h0 | h0
    · rw [List.eq_nil_of_length_eq_zero (by omega : s.data.toList.length = 0)] at hh; cases hh
    · exact h0
  have h1 : (s.toList == [47]) = false := by
    rw [Lib.toList_data, beq_eq_false_iff_ne]
    intro e
    rw [e] at hne
    exact hne rfl
  have hnot : ∀ (x : Bool) (w : World), (Op.unary .not (.bool x)).run Tryd.prog w = .ok (.bool (!x)) w := fun _ _ => rfl
  obtain ⟨q, hq⟩ : ∃ q, s.extract 1 s.size = q := ⟨_, rfl⟩
  have hqd : q.data.toList = s.data.toList.drop 1 := by rw [← hq, Lib.extract_to_end]
  have hqz : q.size < 4294967281 := by
    have e : q.data.toList.length = q.size := rfl
    have e2 : s.data.toList.length = s.size := rfl
    rw [hqd, List.length_drop] at e
    omega
  have HS : Hid (Calls Tryd.prog 16 #[.string q, .string ⟨#[47]⟩] w fun e w' => e = .returned (.slice (some ⟨w.heap.size, 0, none⟩) (toB (Pt.pieces (s.data.toList.drop 1))).length (toB (Pt.pieces (s.data.toList.drop 1))).length) ∧ w' = w.alloc (.cells ((toB (Pt.pieces (s.data.toList.drop 1))).map Value.string).toArray 9)) := by
    have h9 := Tryd.strings_Split q ⟨#[47]⟩ m w hqz hm (by decide)
    rw [← splitB_pieces, hqd] at h9
    have e : Lib.countB q ⟨#[47]⟩ + 1 = (toB (Pt.pieces (s.data.toList.drop 1))).length := by
      rw [toB_len, Pt.count_length, ← hqd]
    rw [e] at h9
    exact h9
  have HN : Hid ((toB (Pt.pieces (s.data.toList.drop 1))).length ≤ 257) := by
    show _ ≤ _
    rw [toB_len, Pt.count_length, Lib.count_one]
    have := List.count_le_length (a := (47 : UInt8)) (l := s.data.toList.drop 1)
    rw [List.length_drop] at this
    omega
  have HF : Hid (∀ x ∈ toB (Pt.pieces (s.data.toList.drop 1)), x.size ≤ 256) := by
    intro x hx
    obtain ⟨y, hy, rfl⟩ := List.mem_map.1 hx
    have h9 := pieces_len_le _ y hy
    rw [List.length_drop] at h9
    have : (ByteArray.mk y.toArray).size = y.length := by simp [ByteArray.size]
    omega
  have HE : Hid (Pt.splitP s.data.toList = if (decide (16 < (toB (Pt.pieces (s.data.toList.drop 1))).length) || (toB (Pt.pieces (s.data.toList.drop 1))).any fun x => Pt.noName x.data.toList) = true then ([], 107) else if ((toB (Pt.pieces (s.data.toList.drop 1))).any fun x => Pt.long x.data.toList) = true then ([], 105) else (Pt.pieces (s.data.toList.drop 1), 0)) := by
    show _ = _
    unfold Pt.splitP Pt.splitL
    rw [if_pos h, if_neg hne, toB_any, toB_any, toB_len]
  have HB : Hid (toB (Pt.pieces (s.data.toList.drop 1)) = toB (Pt.pieces (s.data.toList.drop 1))) := rfl
  have HPC := Lib.hid (rfl : Pt.pieces (s.data.toList.drop 1) = Pt.pieces (s.data.toList.drop 1))
  clear h hl hh hne hqd hm
  have HTB : Hid (∀ w' a n c, Pt.splitP s.data.toList = (Pt.pieces (s.data.toList.drop 1), 0) → Strs w' w'.heap.size a n (toB (Pt.pieces (s.data.toList.drop 1))) → n ≤ c → Upd noBlock w w' → OwnS w' w.heap.size 9 (.slice a n c) (toB (Pt.pieces (s.data.toList.drop 1))) → SplitA s.data.toList w (.returned (.tuple #[.slice a n c, .int .i64 0])) w') := fun w' a n c h1 h2 h3 h4 h5 => by
    unfold SplitA; rw [h1]; exact ⟨a, n, c, rfl, h2, h3, h4, h5⟩
  generalize toB (Pt.pieces (s.data.toList.drop 1)) = Ss at *
  generalize Pt.pieces (s.data.toList.drop 1) = Ps at *
  generalize s.data.toList = l at *
  have HW : Hid ((w.alloc (.cells (Ss.map Value.string).toArray 9)).heap[w.heap.size]? = some (.cells (Ss.map Value.string).toArray 9 (0, 0))) := heap_alloc_new w _
  have HU : Hid (Upd noBlock w (w.alloc (.cells (Ss.map Value.string).toArray 9))) := (Upd.refl _ _).alloc _
  obtain ⟨wa, hwa⟩ : ∃ wa, w.alloc (.cells (Ss.map Value.string).toArray 9) = wa := ⟨_, rfl⟩
  rw [hwa] at HS HW HU
  clear hwa
  obtain ⟨g, hg⟩ : ∃ g, w.heap.size = g := ⟨_, rfl⟩
  rw [hg] at HW HS
  have HG : Hid (w.heap.size ≤ g) := by show _ ≤ _; omega
  clear hg
  have HST := Lib.hid (strs_block HW.out (fun x hx => by have := HF.out x hx; unfold maxLen; omega))
  obtain ⟨n, hn⟩ : ∃ n, Ss.length = n := ⟨_, rfl⟩
  have HLN : Hid (Ss.length = n) := hn
  rw [hn] at HS HN HE HST
  clear hn
  have hn257 : n ≤ 257 := HN.out
  have HC1 := Lib.hid (containsFunc_any 18 (fun x => Pt.noName x.data.toList) _ n n _ Ss wa HST.out (by omega) (fun x _ => noName_any x wa) (fun _ _ => rfl))
  have HC2 := Lib.hid (containsFunc_any 19 (fun x => Pt.long x.data.toList) _ n n _ Ss wa HST.out (by omega) (fun x hx => isLong_any x wa (by have := HF.out x hx; omega)) (fun _ _ => rfl))
  generalize (Ss.any fun x => Pt.noName x.data.toList) = bn at *
  generalize (Ss.any fun x => Pt.long x.data.toList) = bl at *
  by_cases h16 : 16 < n
  · have HX : Hid (Pt.splitP l = ([], 107)) := by show _ = _; rw [HE.out, decide_eq_true h16]; rfl
    go_enter Tryd.func8, Tryd.ntmps8
    go_wp2_with (first
      | (go_at_call 15; (with_reducible refine HP.out.mono ?_); rintro e w1 ⟨rfl, hw1⟩; obtain rfl := hw1.symm)
      | (go_at_call 16; (with_reducible refine HS.out.mono ?_); rintro e w1 ⟨rfl, rfl⟩))
    go_ret2
    exact splitA_none HX.out HU.out
  · cases bn
    · cases bl
      · have HX : Hid (Pt.splitP l = (Ps, 0)) := by show _ = _; rw [HE.out, decide_eq_false h16]; rfl
        go_enter Tryd.func8, Tryd.ntmps8
        go_wp2_with (first
          | (go_at_call 15; (with_reducible refine HP.out.mono ?_); rintro e w1 ⟨rfl, hw1⟩; obtain rfl := hw1.symm)
          | (go_at_call 16; (with_reducible refine HS.out.mono ?_); rintro e w1 ⟨rfl, rfl⟩)
          | (go_at_call 17; (with_reducible refine HC1.out.mono ?_); rintro e w1 ⟨rfl, rfl⟩)
          | (go_at_call 17; (with_reducible refine HC2.out.mono ?_); rintro e w1 ⟨rfl, rfl⟩))
        go_loopw [31] (fun i wr => ∃ k : Nat, k ≤ n ∧ i = .int .i64 (k : Int) ∧ Hid (wr.heap[g]? = some (.cells (Ss.map Value.string).toArray 9 (0, 0))) ∧ Hid (Upd noBlock w wr)) (fun i _ => n - (intOf i).toNat)
        case atStart => exact ⟨0, Nat.zero_le _, rfl, HW, HU⟩
        case round =>
          clear HW HU HC1 HC2 HS HP
          obtain ⟨k, hk, rfl, HW, HU⟩ := hrel
          by_cases h0 : k < n
          · have hck : (Ss.map Value.string).toArray[k]? = some (.string (Ss.getD k ⟨#[]⟩)) := by
              have := HLN.out
              rw [List.getElem?_toArray, List.getElem?_map, List.getD_eq_getElem?_getD, List.getElem?_eq_getElem (by omega)]; rfl
            have HSM := Lib.hid (HF.out _ (getD_memS Ss k (by rw [HLN.out]; exact h0)))
            have HCK := Lib.hid hck
            have c1 := (cell_of HW.out k).trans hck
            generalize Ss.getD k ⟨#[]⟩ = x at *
            clear hck
            go_wp2_with (go_at_call 20; (with_reducible refine (clone_anyY _ _ (by have := HSM.out; omega)).mono ?_); rintro e w2 ⟨rfl, hu2⟩; have W2 := Lib.hid (hu2.cells HW.out (fun h => h)); have U2 := Lib.hid (HU.out.trans hu2); have c2 := (cell_of W2.out k).trans HCK.out; have f2 := free_of W2.out k; clear hu2)
            go_roundw
            case rel =>
              refine ⟨k + 1, by omega, by go_num, ?_, U2.out.setCell (p := ⟨g, k, none⟩) (.inr HG.out) _⟩
              have h9 := block_set W2.out (i := k) (.string x)
              rw [set_same _ _ _ HCK.out] at h9
              exact h9
            case measure => simp [intOf]; omega
          · obtain rfl : k = n := by omega
            go_wp2
            go_ret2
            refine HTB.out _ _ _ _ HX.out ?_ (Nat.le_refl _) HU.out ?_
            rotate_left
            · exact own_block HW.out HG.out HLN.out (by unfold maxLen; omega)
            have h9 := strs_block HW.out (fun x hx => by have := HF.out x hx; unfold maxLen; omega)
            rw [HLN.out] at h9
            exact h9
      · have HX : Hid (Pt.splitP l = ([], 105)) := by show _ = _; rw [HE.out, decide_eq_false h16]; rfl
        go_enter Tryd.func8, Tryd.ntmps8
        go_wp2_with (first
          | (go_at_call 15; (with_reducible refine HP.out.mono ?_); rintro e w1 ⟨rfl, hw1⟩; obtain rfl := hw1.symm)
          | (go_at_call 16; (with_reducible refine HS.out.mono ?_); rintro e w1 ⟨rfl, rfl⟩)
          | (go_at_call 17; (with_reducible refine HC1.out.mono ?_); rintro e w1 ⟨rfl, rfl⟩)
          | (go_at_call 17; (with_reducible refine HC2.out.mono ?_); rintro e w1 ⟨rfl, rfl⟩))
        go_ret2
        exact splitA_none HX.out HU.out
    · have HX : Hid (Pt.splitP l = ([], 107)) := by show _ = _; rw [HE.out, decide_eq_false h16]; rfl
      go_enter Tryd.func8, Tryd.ntmps8
      go_wp2_with (first
        | (go_at_call 15; (with_reducible refine HP.out.mono ?_); rintro e w1 ⟨rfl, hw1⟩; obtain rfl := hw1.symm)
        | (go_at_call 16; (with_reducible refine HS.out.mono ?_); rintro e w1 ⟨rfl, rfl⟩)
        | (go_at_call 17; (with_reducible refine HC1.out.mono ?_); rintro e w1 ⟨rfl, rfl⟩))
      go_ret2
      exact splitA_none HX.out HU.out
theorem split_any (s : ByteArray) (w : World) (hm : Ml w) (hs : s.size ≤ maxLen) : Calls Tryd.prog 8 #[.string s] w (SplitA s.data.toList w) := by
  cases h : Pt.headOk s.data.toList
  · exact split_off s w hs h
  · by_cases h1 : s.data.toList.length = 1
    · refine split_root s w (list_one h1 ?_)
      unfold Pt.headOk at h
      simp only [Bool.and_eq_true] at h
      exact h.1
    · exact split_on s w hm h h1
end Go.Proofs.YtdbjinakbbiimaaDoor
