/- The document's Split. -/
import Derived.Test.YtdbjinakbbiimaaDoorYf
namespace Go.Proofs.YtdbjinakbbiimaaDoor
open Go.RowKit
set_option linter.unusedVariables false

theorem own_cap {w : World} {base e n m k : Nat} {a : Option Addr} {xs : List Value} (h : w.ownsRow base e 1 (.slice a m k) n xs) : n ≤ k := by
  rcases h.2 with ⟨h1, h2⟩ | ⟨g, cap, cur, h1, _, _, hnc, _⟩
  · cases h1
    have := h.1
    rw [h2] at this
    simp at this; omega
  · cases h1; exact hnc
theorem upd_grown_own {a b c : World} {v : Value} (h : Upd noBlock a b) (g : b.grownBy c v.ownBlock) (hv : ∀ k, v.ownBlock = some k → a.heap.size ≤ k) : Upd noBlock a c :=
  ⟨g.os.trans h.os, g.tape.trans h.tape, g.output.trans h.output, Nat.le_trans h.size g.size, fun i hi hn => (g.block i (Nat.lt_of_lt_of_le hi h.size) (fun e => by have := hv i e.symm; omega)).trans (h.block i hi hn)⟩
theorem data_getElem (s : ByteArray) (k : Nat) (h : k < s.size) : s.data.toList[k]'h = s[k] := rfl
theorem head_first (s : ByteArray) (h : 0 < s.size) : (s.data.toList.head? == some 47) = (s[0] == 47) := by
  have e : s.data.toList.head? = some s[0] := by
    rw [List.head?_eq_getElem?, List.getElem?_eq_getElem (show 0 < s.data.toList.length from h)]; rfl
  rw [e]; rfl
theorem u8_ne {a b : UInt8} (h : a ≠ b) : ¬ a.toNat = b.toNat := fun e => h (UInt8.toNat_inj.1 e)
set_option maxRecDepth 100000 in
set_option maxHeartbeats 800000 in
theorem rsplit_off (s : ByteArray) (w : World) (hs : s.size ≤ maxLen) (h : Pt.headOk s.data.toList = false) : Calls Tryd.prog 9 #[.string s] w (SplitA s.data.toList w) := by
  have HE : Hid (Pt.splitP s.data.toList = ([], 107)) := by show _ = _; unfold Pt.splitP; rw [h, if_neg (by decide)]
  unfold maxLen at hs
  rcases Nat.eq_zero_or_pos s.size with h0 | h0
  · have hz : ((s.size : Int) == 0) = true := beq_iff_eq.2 (by omega)
    clear h h0
    generalize s.data.toList = l at *
    go_enter Tryd.func9, Tryd.ntmps9
    go_wp2
    go_ret2
    exact splitA_none HE.out (Upd.refl _ _)
  · have hz : ((s.size : Int) == 0) = false := beq_eq_false_iff_ne.2 (by omega)
    by_cases hc : s[0] = 47
    · have hl : ¬ s.size ≤ 256 := by
        intro hle
        unfold Pt.headOk at h
        rw [head_first s h0, hc, decide_eq_true (show s.data.toList.length ≤ 256 from hle)] at h
        exact absurd h (by decide)
      have hlt : 256 < (s.size : Int) := by omega
      have hb : (((s[0]'h0).toNat : Int) != 47) = false := by rw [hc]; rfl
      clear h hc hl
      generalize s.data.toList = l at *
      go_enter Tryd.func9, Tryd.ntmps9
      go_wp2
      go_ret2
      exact splitA_none HE.out (Upd.refl _ _)
    · have hb : (((s[0]'h0).toNat : Int) != 47) = true := by
        rw [bne_iff_ne]
        have := u8_ne hc
        have e : (47 : UInt8).toNat = 47 := rfl
        omega
      clear h hc
      generalize s.data.toList = l at *
      go_enter Tryd.func9, Tryd.ntmps9
      go_wp2
      go_ret2
      exact splitA_none HE.out (Upd.refl _ _)
set_option maxRecDepth 100000 in
set_option maxHeartbeats 800000 in
theorem rsplit_root (s : ByteArray) (w : World) (hs : s.data.toList = [47]) : Calls Tryd.prog 9 #[.string s] w (SplitA s.data.toList w) := by
  have HE : Hid (Pt.splitP s.data.toList = ([], 0)) := by show _ = _; rw [hs]; decide
  have hz1 : s.size = 1 := by
    have : s.data.toList.length = s.size := rfl
    rw [hs] at this
    exact this.symm
  have h0 : 0 < s.size := by omega
  have hh := head_first s h0
  have hc : s[0] = 47 := by
    rw [hs] at hh
    exact beq_iff_eq.1 hh.symm
  have hb : (((s[0]'h0).toNat : Int) != 47) = false := by rw [hc]; rfl
  have hz : ((s.size : Int) == 0) = false := beq_eq_false_iff_ne.2 (by omega)
  have hz2 : ((s.size : Int) == 1) = true := beq_iff_eq.2 (by omega)
  have hz3 : s.size ≤ 256 := by omega
  clear hs hh hc hz1
  generalize s.data.toList = l at *
  go_enter Tryd.func9, Tryd.ntmps9
  go_wp2
  go_ret2
  exact splitA_none HE.out (Upd.refl _ _)
/-- how the loop goes on -/
theorem rs_end {p : List UInt8} {k f : Nat} {L : List (List UInt8)} {bd lg : Bool} (h : Pt.RS p k f L bd lg) (hk : k ≤ p.length) (hc : k = p.length ∨ ∃ h : k < p.length, p[k] = 47) :
    Pt.RS p (k + 1) (k + 1) (L ++ [(p.drop f).take (k - f)]) (((bd || (p.drop f).take (k - f) == []) || (p.drop f).take (k - f) == [46]) || (p.drop f).take (k - f) == [46, 46]) (lg || decide (32 < ((p.drop f).take (k - f)).length)) := by
  rcases hc with rfl | ⟨h1, h2⟩
  · exact h.last
  · exact h.cut h1 h2
set_option maxRecDepth 100000 in
set_option maxHeartbeats 6400000 in
theorem rsplit_on (s : ByteArray) (w : World) (h : Pt.headOk s.data.toList = true) (hne : s.data.toList.length ≠ 1) : Calls Tryd.prog 9 #[.string s] w (SplitA s.data.toList w) := by
  obtain ⟨i0, hi0, hz0, hz1, hz2⟩ := strParts
  have h' := h
  unfold Pt.headOk at h'
  simp only [Bool.and_eq_true, decide_eq_true_eq] at h'
  obtain ⟨hh, hl⟩ := h'
  obtain ⟨N, hN⟩ : ∃ N, s.size = N := ⟨_, rfl⟩
  have hlN : s.data.toList.length = N := hN
  have hN256 : N ≤ 256 := by omega
  have h0 : 0 < N := by
    rcases Nat.eq_zero_or_pos N with h0 | h0
    · rw [List.eq_nil_of_length_eq_zero (by omega : s.data.toList.length = 0)] at hh; cases hh
    · exact h0
  have h00 : 0 < s.size := by omega
  have hc0 : s[0] = 47 := by rw [head_first s h00] at hh; exact beq_iff_eq.1 hh
  have hb0 : (((s[0]'h00).toNat : Int) != 47) = false := by rw [hc0]; rfl
  have hzz : ((N : Int) == 0) = false := beq_eq_false_iff_ne.2 (by omega)
  have hzo : ((N : Int) == 1) = false := beq_eq_false_iff_ne.2 (by omega)
  have HST := Lib.hid (Pt.RS.start (p := s.data.toList) (by omega))
  have HDONE : Hid (∀ f L bd lg i, Pt.RS s.data.toList i f L bd lg → N < i → Pt.splitP s.data.toList = if (bd || decide (16 < L.length)) = true then ([], 107) else if lg = true then ([], 105) else (L, 0)) := fun f L bd lg i hr hi => hr.done (by omega) h hne
  have HLN := Lib.hid hlN
  have HNN := Lib.hid hN
  have HSA : Hid (∀ L w' a n c, Pt.splitP s.data.toList = (L, 0) → Strs w' w'.heap.size a n (toB L) → n ≤ c → Upd noBlock w w' → OwnS w' w.heap.size 9 (.slice a n c) (toB L) → SplitA s.data.toList w (.returned (.tuple #[.slice a n c, .int .i64 0])) w') := fun L w' a n c h1 h2 h3 h4 h5 => by
    unfold SplitA; rw [h1]; exact ⟨a, n, c, rfl, h2, h3, h4, h5⟩
  have HFIT : Hid (∀ f L bd lg i, Pt.RS s.data.toList i f L bd lg → N < i → ∀ x ∈ toB L, x.size ≤ maxLen) := fun f L bd lg i hr hi x hx => by
    obtain ⟨hL, -⟩ := hr.hi (by omega)
    obtain ⟨y, hy, rfl⟩ := List.mem_map.1 hx
    rw [hL] at hy
    have h9 := pieces_len_le _ y hy
    rw [List.length_drop] at h9
    have : (ByteArray.mk y.toArray).size = y.length := by simp [ByteArray.size]
    unfold maxLen; omega
  have HBYTE : Hid (∀ k (hk : k < s.size) (hl : k < s.data.toList.length), s.data.toList[k]'hl = s[k]'hk) := fun k hk hl => rfl
  have HEXT : Hid (∀ f k, f ≤ k → (s.extract f k).data.toList = (s.data.toList.drop f).take (k - f)) := fun f k _ => Lib.extract_data s f k
  clear h hne hh hl hc0 hlN
  generalize s.data.toList = P at *
  go_enter Tryd.func9, Tryd.ntmps9
  go_wp2
  go_loopw [4, 5, 6, 7, 8] (fun v f lg bd i wr => ∃ (k fr : Nat) (L : List (List UInt8)) (b g : Bool), k ≤ N + 1 ∧ i = .int .i64 (k : Int) ∧ f = .int .i64 (fr : Int) ∧ lg = .bool g ∧ bd = .bool b ∧ Hid (Pt.RS P k fr L b g) ∧ Hid (OwnS wr w.heap.size 9 v (toB L)) ∧ Hid (Upd noBlock w wr)) (fun _ _ _ _ i _ => N + 1 - (intOf i).toNat)
  case atStart => exact ⟨1, 1, [], false, false, by omega, rfl, rfl, rfl, rfl, HST, OwnS.nil _ _ _, Upd.refl _ _⟩
  case round =>
    clear HST
    obtain ⟨k, fr, L, b, g, hk, rfl, rfl, rfl, rfl, HR, HO, HU⟩ := hrel
    by_cases hkN : k ≤ N
    · obtain ⟨hf1, hf2, -⟩ := HR.out.fi (by rw [HLN.out]; exact hkN)
      by_cases hm : ∃ hks : k < s.size, s[k] ≠ 47
      · obtain ⟨hks, hne⟩ := hm
        have hb1 : (((s[k]'hks).toNat : Int) != 47) = true := by
          rw [bne_iff_ne]
          have := u8_ne hne
          have e : (47 : UInt8).toNat = 47 := rfl
          omega
        have HR2 := Lib.hid (HR.out.more (by rw [HLN.out]; omega) (by rw [HBYTE.out k hks _]; exact hne))
        rw [HBYTE.out k hks _] at HR2
        clear hne
        cases b
        · by_cases hz : s[k] = 0
          · have hb2 : (((s[k]'hks).toNat : Int) == 0) = true := by rw [hz]; rfl
            rw [hz] at HR2
            clear hz
            go_wp2
            go_roundw
            case rel => exact ⟨k + 1, fr, L, true, g, by omega, by go_num, rfl, rfl, rfl, HR2, HO, HU⟩
            case measure => simp [intOf] <;> omega
          · have hb2 : (((s[k]'hks).toNat : Int) == 0) = false := by
              rw [beq_eq_false_iff_ne]
              have := u8_ne hz
              have e : (0 : UInt8).toNat = 0 := rfl
              omega
            rw [beq_eq_false_iff_ne.2 hz] at HR2
            clear hz
            go_wp2
            go_roundw
            case rel => exact ⟨k + 1, fr, L, false, g, by omega, by go_num, rfl, rfl, rfl, HR2, HO, HU⟩
            case measure => simp [intOf] <;> omega
        · go_wp2
          go_roundw
          case rel => exact ⟨k + 1, fr, L, true, g, by omega, by go_num, rfl, rfl, rfl, HR2, HO, HU⟩
          case measure => simp [intOf] <;> omega
      · have hcase : k = N ∨ ∃ hks : k < s.size, s[k] = 47 := by
          by_cases e : k = N
          · exact .inl e
          · refine .inr ⟨by omega, ?_⟩
            by_cases e2 : s[k]'(by omega) = 47
            · exact e2
            · exact absurd ⟨by omega, e2⟩ hm
        have HR2 := Lib.hid (rs_end HR.out (by rw [HLN.out]; exact hkN) (by
          rcases hcase with e | ⟨h1, h2⟩
          · exact .inl (by rw [HLN.out]; exact e)
          · exact .inr ⟨by rw [HLN.out]; omega, (HBYTE.out k h1 _).trans h2⟩))
        rw [← HEXT.out fr k hf2] at HR2
        obtain ⟨x, hx⟩ : ∃ x, s.extract fr k = x := ⟨_, rfl⟩
        rw [hx] at HR2
        have hxz : x.size ≤ 256 := by
          rw [← hx, ByteArray.size_extract]; omega
        have hxl : x.data.toList.length = x.size := rfl
        rw [hxl] at HR2
        have hxt : x.data.toList = x.toList := (Lib.toList_data x).symm
        rw [hxt] at HR2
        have HLL : Hid (L.length ≤ 257) := by have := HR.out.cnt; show _ ≤ _; omega
        have HTL : Hid (toB (L ++ [x.toList]) = toB L ++ [x]) := by
          show _ = _
          unfold toB
          rw [List.map_append, List.map_cons, List.map_nil, ← hxt]
        clear hxl hxt hm
        obtain ⟨NB, hNB⟩ : ∃ NB, (((b || x.toList == []) || x.toList == [46]) || x.toList == [46, 46]) = NB := ⟨_, rfl⟩
        obtain ⟨NG, hNG⟩ : ∃ NG, (g || decide (32 < x.size)) = NG := ⟨_, rfl⟩
        rw [hNB, hNG] at HR2
        have HNB := Lib.hid hNB
        have HNG := Lib.hid hNG
        have HX := Lib.hid hx
        have HCS := Lib.hid hcase
        clear hNB hNG hcase hx
        have hbase := HU.out.size
        have HO2 := Lib.hid (HO.out.grow ((Upd.refl noBlock wr).alloc (.cells #[.string x] 9)))
        have HU2 := Lib.hid (HU.out.alloc (.cells #[.string x] 9))
        have HI := Lib.hid (Row1.one wr 9 (.string x))
        rcases HCS.out with e | ⟨hks, hc⟩
        all_goals
          first
            | (have hb1 : (((s[k]'hks).toNat : Int) != 47) = false := by rw [hc]; rfl)
            | subst e
          try clear hc
          have hx := HX.out
          go_upto_region 15 with fail
          clear hx
          go_cut [7] from 27 to 78 (fun s7 wx => s7 = .bool NB ∧ wx = wr)
          case first =>
            have hNB := HNB.out
            cases b
            · by_cases e0 : x.toList = []
              · have z0 : x.toList.isEmpty = true := by rw [e0]; rfl
                rw [e0] at hNB
                clear e0
                have HY : Hid (NB = true) := hNB.symm
                clear hNB
                go_wp2_with fail
                go_meet
                exact ⟨by rw [HY.out], rfl⟩
              · have z0 : x.toList.isEmpty = false := by simpa using e0
                have b0 : (x.toList == []) = false := by simpa using e0
                rw [b0] at hNB
                clear e0 b0
                by_cases e1 : x.toList = [46]
                · have z1 : (x.toList == [46]) = true := by simpa using e1
                  rw [z1] at hNB
                  clear e1
                  have HY : Hid (NB = true) := hNB.symm
                  clear hNB
                  go_wp2_with fail
                  go_meet
                  exact ⟨by rw [HY.out], rfl⟩
                · have z1 : (x.toList == [46]) = false := by simpa using e1
                  rw [z1] at hNB
                  clear e1
                  have HY : Hid ((x.toList == [46, 46]) = NB) := hNB
                  clear hNB
                  go_wp2_with fail
                  go_meet
                  exact ⟨by rw [← HY.out], rfl⟩
            · have HY : Hid (NB = true) := hNB.symm
              clear hNB
              go_wp2_with fail
              go_meet
              exact ⟨by rw [HY.out], rfl⟩
          case rest =>
            obtain ⟨rfl, rfl⟩ := hcut
            go_upto_region 16 with fail
            go_cut [6] from 27 to 78 (fun s6 wx => s6 = .bool NG ∧ wx = wc)
            case first =>
              have hNG := HNG.out
              cases g
              · have HY : Hid (decide (32 < (x.size : Int)) = NG) := by
                  have e9 : decide (32 < (x.size : Int)) = decide (32 < x.size) := decide_eq_decide.2 (by omega)
                  show _ = _
                  rw [e9]; exact hNG
                clear hNG
                go_wp2_with fail
                go_meet
                exact ⟨congrArg Value.bool HY.out, rfl⟩
              · have HY : Hid (NG = true) := hNG.symm
                clear hNG
                go_wp2_with fail
                go_meet
                exact ⟨by rw [HY.out], rfl⟩
            case rest =>
              obtain ⟨rfl, rfl⟩ := hcut
              go_wp2_with (at_builtin; refine wpList_append_vals _ rfl (.tmp 75) (.tmp 77) _ rfl w.heap.size 9 i0 _ 16 Tryd.underlying23 hi0 hz0 hz1 hz2 rfl _ (toB L).length ((toB L).map Value.string) rfl HO2.out _ (some ⟨_, 0, none⟩) 1 1 [.string x] rfl HI.out (by intro u hu; simp at hu; subst hu; rfl) (by have := HLL.out; rw [toB_len]; simp only [maxLen]; omega) (by have := HLL.out; rw [toB_len]; omega) (by simp; omega) ?_; intro v3 w3 hown3 hg3 _)
              go_roundw
              case rel => exact ⟨k + 1, k + 1, L ++ [x.toList], NB, NG, by omega, rfl, rfl, rfl, rfl, HR2, by rw [HTL.out]; exact OwnS.snoc hown3, upd_grown_own HU2.out hg3 (fun i hi => (HO2.out.lt i hi).1)⟩
              case measure => simp [intOf] <;> omega
    · have HF := Lib.hid (HDONE.out _ _ _ _ _ HR.out (by omega))
      have HLL : Hid (L.length ≤ 258) := by have := HR.out.cnt; show _ ≤ _; omega
      have hfit : ∀ x ∈ toB L, x.size ≤ maxLen := HFIT.out _ _ _ _ _ HR.out (by omega)
      obtain ⟨a, c, rfl, hs4, -⟩ := HO.out.sl hfit
      have hcc : (toB L).length ≤ c := own_cap HO.out
      have HS4 := Lib.hid hs4
      have HLB : Hid ((toB L).length = L.length) := toB_len L
      rw [HLB.out] at HS4 hcc HO
      rw [HLB.out]
      have HCC := Lib.hid hcc
      clear hfit hs4 hcc
      obtain ⟨n, hn⟩ : ∃ n, L.length = n := ⟨_, rfl⟩
      rw [hn] at HF HLL HS4 HCC HO
      rw [hn]
      clear hn HLB
      have hn258 : n ≤ 258 := HLL.out
      cases b
      · by_cases h16 : 16 < n
        · have HX : Hid (Pt.splitP P = ([], 107)) := by show _ = _; rw [HF.out, decide_eq_true h16]; rfl
          go_wp2
          go_ret2
          exact splitA_none HX.out HU.out
        · cases g
          · have HX : Hid (Pt.splitP P = (L, 0)) := by show _ = _; rw [HF.out, decide_eq_false h16]; rfl
            go_wp2
            go_ret2
            exact HSA.out _ _ _ _ _ HX.out HS4.out HCC.out HU.out HO.out
          · have HX : Hid (Pt.splitP P = ([], 105)) := by show _ = _; rw [HF.out, decide_eq_false h16]; rfl
            go_wp2
            go_ret2
            exact splitA_none HX.out HU.out
      · have HX : Hid (Pt.splitP P = ([], 107)) := by show _ = _; rw [HF.out]; rfl
        go_wp2
        go_ret2
        exact splitA_none HX.out HU.out
theorem rsplit_any (s : ByteArray) (w : World) (hs : s.size ≤ maxLen) : Calls Tryd.prog 9 #[.string s] w (SplitA s.data.toList w) := by
  cases h : Pt.headOk s.data.toList
  · exact rsplit_off s w hs h
  · by_cases h1 : s.data.toList.length = 1
    · refine rsplit_root s w (list_one h1 ?_)
      unfold Pt.headOk at h
      simp only [Bool.and_eq_true] at h
      exact h.1
    · exact rsplit_on s w h h1
end Go.Proofs.YtdbjinakbbiimaaDoor
