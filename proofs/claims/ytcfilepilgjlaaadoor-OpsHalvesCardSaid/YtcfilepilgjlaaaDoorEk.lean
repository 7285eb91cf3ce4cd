/- The document's Write. -/
import Derived.Test.YtcfilepilgjlaaaDoorEj
namespace Go.Proofs.YtcfilepilgjlaaaDoor
open Go.RowKit

theorem same64_succ (f1 f2 : Nat → UInt8) (o1 o2 n : Nat) : same64 f1 f2 o1 o2 (n + 1) = (same64 f1 f2 o1 o2 n && (f1 (o1 + n) == f2 (o2 + n))) := by
  unfold same64; rw [List.range_succ, List.all_append]; simp
theorem tN_shift (f : Nat → UInt8) (o : Nat) : ∀ k, tN (fun j => f (o + j)) 0 k = tN f o k
  | 0 => rfl
  | k + 1 => by
    rw [tN, tN, tN_shift f o k]
    simp only [Nat.zero_add]
theorem tx_shift (f : Nat → UInt8) (o : Nat) : tx (fun j => f (o + j)) 0 = tx f o := by
  unfold tx bytesAt
  rw [tN_shift]
  simp only [Nat.zero_add]
/-- a row of which the first i bytes are new -/
def mixF (f1 f2 : Nat → UInt8) (o i j : Nat) : UInt8 := if j < i then f2 (o + j) else f1 (o + j)
theorem mix_zero (f1 f2 : Nat → UInt8) (o j : Nat) : f1 (o + j) = mixF f1 f2 o 0 j := by unfold mixF; rw [if_neg (Nat.not_lt_zero j)]
theorem mix_all (f1 f2 : Nat → UInt8) (o n j : Nat) (h : j < n) : mixF f1 f2 o n j = f2 (o + j) := by unfold mixF; rw [if_pos h]
theorem mix_step (f1 f2 : Nat → UInt8) (o i j : Nat) : (if j = i then f2 (o + i) else mixF f1 f2 o i j) = mixF f1 f2 o (i + 1) j := by
  unfold mixF
  by_cases e : j = i
  · subst e; rw [if_pos rfl, if_pos (by omega)]
  · rw [if_neg e]
    by_cases e2 : j < i
    · rw [if_pos e2, if_pos (by omega)]
    · rw [if_neg e2, if_neg (by omega)]
theorem mix_same (f1 f2 : Nat → UInt8) (o i j : Nat) (h : f2 (o + i) = f1 (o + i)) : mixF f1 f2 o i j = mixF f1 f2 o (i + 1) j := by
  rw [← mix_step]
  by_cases e : j = i
  · subst e; rw [if_pos rfl, h]; unfold mixF; rw [if_neg (Nat.lt_irrefl j)]
  · rw [if_neg e]
theorem mix_at (f1 f2 : Nat → UInt8) (o i : Nat) : mixF f1 f2 o i i = f1 (o + i) := by unfold mixF; rw [if_neg (Nat.lt_irrefl i)]
theorem rcParts : ∃ i0 z0, Tryd.prog.info? 56 = some i0 ∧ i0.zero = some z0 ∧ i0.size = 3 ∧ i0.bytes = 40 ∧ z0.cells.size = 3 := by
  have h : (Tryd.prog.info? 56).map (fun i => (i.zero.map (fun z => z.cells.size), i.size, i.bytes)) = some (some 3, 3, 40) := by kernel_rfl
  obtain ⟨i0, h1, h2⟩ := Option.map_eq_some_iff.1 h
  simp only [Prod.mk.injEq] at h2
  obtain ⟨z0, h3, h4⟩ := Option.map_eq_some_iff.1 h2.1
  exact ⟨i0, z0, h1, h3, h2.2.1, h2.2.2, h4⟩
theorem dcs_new (W : World) (a b c : Value) : ∀ j u, [a, b, c][j]? = some u → (W.alloc (.cells #[a, b, c] 56)).cell? ((⟨W.heap.size, 0, none⟩ : Addr).add j) = some u := fun j u hu => by
  rw [add_zero_addr, cell_of (heap_alloc_new W _)]
  simpa using hu
theorem dcs_one (a b : ByteArray) (c : Bool) : ∀ u ∈ [Value.string a, .string b, .bool c], u.oneCell' = true := by
  intro u hu
  simp only [List.mem_cons, List.not_mem_nil, or_false] at hu
  rcases hu with rfl | rfl | rfl <;> rfl
set_option maxRecDepth 100000 in
set_option maxHeartbeats 3200000 in
theorem refWrite_main (nm size o : Int) (q : ByteArray) (a : Option Addr) (n0 c B : Nat) (Ss : List ByteArray) (w : World) (hr : Strs w B a n0 Ss) (hB : B ≤ w.heap.size) (F : Int) (r M : Nat) (ho : o = F * 64 + (r : Int)) (hr64 : r < 64) (hF0 : 0 ≤ F) (hF1 : F ≤ 200) (hM0 : r + q.size ≤ M * 64) (hM1 : M * 64 < r + q.size + 64) (hq0 : 0 < q.size) (hq1 : q.size ≤ 256) (ho8 : o + (q.size : Int) ≤ 8192) :
    Calls Tryd.prog 9 #[.int .i64 nm, .int .i64 size, .int .i64 o, .string q, .slice a n0 c] w fun e w' => ∃ v, e = .returned (.tuple #[v, .int .i64 (max size (o + (q.size : Int))), .int .i64 0]) ∧ Dhs w w' nm v (difL F (spF Ss) (laid (spF Ss) r q.data.toList q.size) M) := by
  obtain ⟨i0, z0, hi0, hz0, hz1, hz2, hz3⟩ := rcParts
  have HSTR := Lib.hid hr
  have HBB := Lib.hid hB
  obtain ⟨f1, hf1⟩ : ∃ f, spF Ss = f := ⟨_, rfl⟩
  obtain ⟨f2, hf2⟩ : ∃ f, laid f1 r q.data.toList q.size = f := ⟨_, rfl⟩
  have HIN : Hid (∀ x, r ≤ x → (h : x - r < q.size) → f2 x = q[x - r]'h) := fun x hx h => by
    rw [← hf2]
    unfold laid
    rw [if_pos ⟨hx, by omega⟩, List.getD_eq_getElem?_getD, List.getElem?_eq_getElem (by exact h)]; rfl
  have HOUT : Hid (∀ x, ¬ (r ≤ x ∧ x - r < q.size) → f2 x = f1 x) := fun x hx => by
    rw [← hf2]
    unfold laid
    rw [if_neg (fun h => hx ⟨h.1, by omega⟩)]
  have HF1 := Lib.hid hf1
  rw [hf1, hf2]
  have hMM : M ≤ 6 := by omega
  have e0 : o.tdiv 64 = F := by rw [Int.tdiv_eq_ediv_of_nonneg (by omega)]; omega
  have b1 : ¬ o < 0 := by omega
  have b3 : ¬ 8192 < o := by omega
  have b4 : ¬ 8192 < o + (q.size : Int) := by omega
  have HDL := Lib.hid (fun k => difL_len F f1 f2 k)
  have ho0 : 0 ≤ o := by omega
  have HO := Lib.hid ho
  have HM0 := Lib.hid hM0
  have HM1 := Lib.hid hM1
  obtain ⟨Z, hZ⟩ : ∃ Z, max size (o + (q.size : Int)) = Z := ⟨_, rfl⟩
  rw [hZ]
  have HZ := Lib.hid hZ
  clear hr hB hf1 hf2 ho hM0 hM1 hZ
  go_enter Tryd.func9, Tryd.ntmps9
  go_wp2
  go_loopw [13, 15] (fun v i wr => ∃ (x : Value) (j : Nat), j ≤ M ∧ x = v ∧ i = .int .i64 (F + (j : Int)) ∧ Hid (Dhs w wr nm x (difL F f1 f2 j))) (fun _ i _ => (F + (M : Int) - intOf i).toNat)
  case atStart => exact ⟨_, 0, Nat.zero_le _, rfl, by simp, Dhs.nil w nm⟩
  case round =>
    obtain ⟨x, j, hj, rfl, rfl, HD⟩ := hrel
    obtain ⟨wo, rfl⟩ : ∃ wo : World, wo = wr := ⟨_, rfl⟩
    by_cases h0 : j < M
    · have e1 : F + (j : Int) - F = (j : Int) := by omega
      have t1 : (F + (j : Int)) * 64 < o + (q.size : Int) := by have := HO.out; have := HM1.out; omega
      have HPC := Lib.hid (Piece_any a n0 c B j Ss wo (by exact HSTR.out.grow HD.out.up (by exact HBB.out)) (by have := HD.out.up.size; have := HBB.out; omega) (by omega))
      go_wp2_with (first | (go_at_call 18; (with_reducible refine HPC.out.mono ?_); rintro e w1 ⟨g, rfl, hg, rg, u1⟩; have RG : Hid (R8 w1 g 64 (mixF f1 f2 (j * 64) 0)) := rg.congr (fun jj hjj => by rw [pcF_sp Ss j jj hjj, HF1.out]; exact mix_zero f1 f2 (j * 64) jj); have U1 := Lib.hid u1; clear u1 rg))
      go_loopw [17, 18] (fun dv iv wr1 => ∃ (D : Bool) (i : Nat), i ≤ 64 ∧ dv = .bool D ∧ iv = .int .i64 (i : Int) ∧ Hid (D = !same64 f2 f1 (j * 64) (j * 64) i) ∧ Hid (R8 wr1 g 64 (mixF f1 f2 (j * 64) i)) ∧ Hid (Upd noBlock wo wr1)) (fun _ iv _ => 64 - (intOf iv).toNat)
      case atStart => exact ⟨_, 0, Nat.zero_le _, rfl, rfl, rfl, RG, U1⟩
      case round =>
        clear RG U1
        obtain ⟨D, i, hi, rfl, rfl, HY, HR, HU⟩ := hrel
        by_cases i0 : i < 64
        · obtain ⟨P, hP⟩ : ∃ P : Int, (F + (j : Int)) * 64 + (i : Int) - o = P := ⟨_, rfl⟩
          have HPE : Hid (P = ((j * 64 + i : Nat) : Int) - (r : Int)) := by show _ = _; have := HO.out; omega
          have cc := HR.out.cell i i0
          have ff := HR.out.free i
          rw [mix_at] at cc
          by_cases hin : r ≤ j * 64 + i ∧ j * 64 + i - r < q.size
          · obtain ⟨n, hn⟩ : ∃ n, j * 64 + i - r = n := ⟨_, rfl⟩
            have hPn : P = (n : Int) := by have := HPE.out; omega
            have hnq : n < q.size := by omega
            have hf2 : f2 (j * 64 + i) = q[n] := by
              have := HIN.out (j * 64 + i) hin.1 hin.2
              simp only [hn] at this
              exact this
            subst hPn
            have HR2 : Hid (∀ W, Upd noBlock wr W → R8 (W.setCell ⟨g, i, none⟩ (.int .u8 ((q[n].toNat : Nat) : Int))) g 64 (mixF f1 f2 (j * 64) (i + 1)) ∧ Upd noBlock wo (W.setCell ⟨g, i, none⟩ (.int .u8 ((q[n].toNat : Nat) : Int)))) := fun W hu =>
              ⟨((HR.out.grow hu).set i q[n]).congr fun jj _ => by rw [← hf2]; exact mix_step f1 f2 (j * 64) i jj, (HU.out.trans hu).setCell (p := ⟨g, i, none⟩) (.inr hg) _⟩
            have hD := same64_succ f2 f1 (j * 64) (j * 64) i
            rw [hf2] at hD
            have hDb : same64 f2 f1 (j * 64) (j * 64) i = !D := by rw [HY.out]; simp
            cases hDD : D
            rotate_left
            · rw [hDb, hDD, Bool.not_true, Bool.false_and] at hD
              have HD2 := Lib.hid hD
              clear HY hDb hD HR HU hf2 hin hn
              go_wp2
              go_quiet (fail)
              go_wp2
              go_roundw
              case rel => exact ⟨_, i + 1, by omega, rfl, by go_num, by show _ = _; rw [HD2.out]; rfl, (HR2.out _ ((Upd.refl _ _).drewN _)).1, (HR2.out _ ((Upd.refl _ _).drewN _)).2⟩
              case measure => simp [intOf] <;> omega
            · rw [hDb, hDD, Bool.not_false, Bool.true_and] at hD
              by_cases he : q[n] = f1 (j * 64 + i)
              · rw [he, beq_self_eq_true] at hD
                have HD2 := Lib.hid hD
                rw [← he] at cc
                clear HY hDb hD HR HU hf2 hin hn he
                go_wp2
                go_quiet (fail)
                go_wp2
                go_roundw
                case rel => exact ⟨_, i + 1, by omega, rfl, by go_num, by show _ = _; rw [HD2.out]; rfl, (HR2.out _ ((Upd.refl _ _).drewN _)).1, (HR2.out _ ((Upd.refl _ _).drewN _)).2⟩
                case measure => simp [intOf] <;> omega
              · rw [beq_eq_false_iff_ne.2 he] at hD
                have HD2 := Lib.hid hD
                have hne := u8_ne (fun e => he e.symm)
                generalize (((f1 (j * 64 + i)).toNat : Nat) : Int) = z1 at *
                clear HY hDb hD HR HU hf2 hin hn he
                go_wp2
                go_quiet (fail)
                go_wp2
                go_roundw
                case rel => exact ⟨_, i + 1, by omega, rfl, by go_num, by show _ = _; rw [HD2.out]; exact bne_iff_ne.2 hne, (HR2.out _ ((Upd.refl _ _).drewN _)).1, (HR2.out _ ((Upd.refl _ _).drewN _)).2⟩
                case measure => simp [intOf] <;> omega
          · have hsm := HOUT.out (j * 64 + i) hin
            have HR2 : Hid (R8 wr g 64 (mixF f1 f2 (j * 64) (i + 1))) := HR.out.congr fun jj _ => mix_same f1 f2 (j * 64) i jj hsm
            have HD2 : Hid (D = !same64 f2 f1 (j * 64) (j * 64) (i + 1)) := by
              show _ = _
              rw [same64_succ, hsm, beq_self_eq_true, Bool.and_true]; exact HY.out
            have hcase : P < 0 ∨ (¬ P < 0 ∧ ¬ P < (q.size : Int)) := by have := HPE.out; omega
            clear HY HR hsm cc ff hin HPE
            rcases hcase with h1 | ⟨h1, h2⟩
            all_goals
              go_wp2
              go_roundw
              case rel => exact ⟨D, i + 1, by omega, rfl, by go_num, HD2, HR2, HU⟩
              case measure => simp [intOf] <;> omega
        · obtain rfl : i = 64 := by omega
          have RB : Hid (R8 wr g 64 (fun jj => f2 (j * 64 + jj))) := HR.out.congr fun jj hjj => mix_all f1 f2 (j * 64) 64 jj hjj
          have hDb : same64 f2 f1 (j * 64) (j * 64) 64 = !D := by rw [HY.out]; simp
          cases hDD : D
          · rw [hDD] at hDb
            have HDX := Lib.hid (difL_same F f1 f2 j hDb)
            have HDN := Lib.hid (HD.out.grow HU.out)
            rw [← HDX.out] at HDN
            clear HY HR hDb
            go_wp2
            go_roundw
            case rel => exact ⟨_, j + 1, by omega, rfl, by go_num, HDN⟩
            case measure => simp [intOf] <;> omega
          · rw [hDD] at hDb
            have HDX := Lib.hid (difL_other F f1 f2 j hDb)
            have HMD := Made_any nm (F + (j : Int)) g 64 _ wr RB.out (Nat.le_refl _)
            rw [tx_shift] at HMD
            obtain ⟨T, hT⟩ : ∃ T, tx f2 (j * 64) = T := ⟨_, rfl⟩
            rw [hT] at HDX HMD
            have HS := Lib.hid (fun w1 w2 v' (h : Dhs w w1 nm x (difL F f1 f2 j)) hg ho => Dhs.snoc (w2 := w2) (v' := v') (F + (j : Int), T) h hg ho)
            unfold dcC at HS
            simp only [] at HS
            obtain ⟨qk, hqk⟩ : ∃ q : ByteArray, ⟨(kT nm (F + (j : Int))).toArray⟩ = q := ⟨_, rfl⟩
            obtain ⟨qt, hqt⟩ : ∃ q : ByteArray, ⟨T.toArray⟩ = q := ⟨_, rfl⟩
            obtain ⟨bt, hbt⟩ : ∃ b, T.isEmpty = b := ⟨_, rfl⟩
            rw [hqk, hqt, hbt] at HS HMD
            have HM := Lib.hid HMD
            have HO := Lib.hid (dcs_one qk qt bt)
            have HLN := HDL.out j
            have HB1 : Hid ((difL F f1 f2 j).length + 1 ≤ maxLen ∧ ((difL F f1 f2 j).length + 1) * 40 ≤ 140737488355328) := by
              show _ ∧ _
              unfold maxLen; omega
            clear HY HR hDb HMD hqk hqt hbt hT HLN RB
            go_wp2_with (first
              | (go_at_call 19; (with_reducible refine HM.out.mono ?_); rintro e w2 ⟨rfl, u2⟩; have HX := Lib.hid ((HD.out.grow (HU.out.trans u2)).grow ((Upd.refl noBlock w2).alloc (.cells #[.string qk, .string qt, .bool bt] 56))); have HNN := Lib.hid (dcs_new w2 (.string qk) (.string qt) (.bool bt)); have hbz := (HD.out.up.trans ((HU.out.trans u2).alloc (.cells #[.string qk, .string qt, .bool bt] 56))).size; clear u2)
              | (at_builtin; refine wpList_append_own _ rfl (.tmp 93) (.tmp 98) 29 rfl w.heap.size 56 _ z0 3 40 Tryd.underlying29 hi0 hz0 hz1 hz2 hz3 (by decide) x _ _ rfl HX.out.own ⟨w2.heap.size, 0, none⟩ 1 1 _ rfl rfl HNN.out HO.out HB1.out.1 HB1.out.2 hbz ?_; intro v' w3 hO hg _; have HY3 := Lib.hid (HS.out _ _ _ HX.out hg hO); clear hO hg))
            rw [← HDX.out] at HY3
            go_roundw
            case rel => exact ⟨_, j + 1, by omega, rfl, by go_num, HY3⟩
            case measure => simp [intOf] <;> omega
    · obtain rfl : j = M := by omega
      have t2 : ¬ (F + (j : Int)) * 64 < o + (q.size : Int) := by have := HO.out; have := HM0.out; omega
      by_cases hsz : o + (q.size : Int) > size
      · obtain rfl : o + (q.size : Int) = Z := by have := HZ.out; omega
        go_wp2
        go_ret3
        exact ⟨_, rfl, HD.out⟩
      · obtain rfl : size = Z := by have := HZ.out; omega
        go_wp2
        go_ret3
        exact ⟨_, rfl, HD.out⟩
set_option maxRecDepth 100000 in
set_option maxHeartbeats 3200000 in
theorem refWrite_any (nm size o : Int) (d : List UInt8) (a : Option Addr) (n0 c B : Nat) (Ss : List ByteArray) (w : World) (hr : Strs w B a n0 Ss) (hB : B ≤ w.heap.size) (hd : d.length ≤ 281474976710656) (ho : o ≤ 9223372036854775807) (ho2 : -9223372036854775808 ≤ o) :
    Calls Tryd.prog 9 #[.int .i64 nm, .int .i64 size, .int .i64 o, .string ⟨d.toArray⟩, .slice a n0 c] w fun e w' => ∃ v, e = .returned (.tuple #[v, .int .i64 (wrS size o d), .int .i64 (wrE o d)]) ∧ Dhs w w' nm v (wrL o d Ss) := by
  obtain ⟨q, hq⟩ : ∃ q : ByteArray, ⟨d.toArray⟩ = q := ⟨_, rfl⟩
  have hsz : q.size = d.length := by rw [← hq]; rfl
  have hdl : q.data.toList = d := by rw [← hq]
  rw [hq]
  clear hq
  by_cases b1 : o < 0
  · have e1 : wrS size o d = 0 := if_neg (fun h => by have := h.1; omega)
    have e2 : wrE o d = 107 := if_pos (.inl b1)
    have e3 : wrL o d Ss = [] := if_neg (fun h => by have := h.1.1; omega)
    rw [e1, e2, e3]
    clear e1 e2 e3 hr
    go_enter Tryd.func9, Tryd.ntmps9
    go_wp2
    go_ret3
    exact ⟨_, rfl, Dhs.nil w nm⟩
  · by_cases b2 : 256 < d.length
    · have e1 : wrS size o d = 0 := if_neg (fun h => by have := h.2.1; omega)
      have e2 : wrE o d = 107 := if_pos (.inr b2)
      have e3 : wrL o d Ss = [] := if_neg (fun h => by have := h.1.2.1; omega)
      rw [e1, e2, e3]
      rw [← hsz] at b2 hd
      clear e1 e2 e3 hr hsz
      go_enter Tryd.func9, Tryd.ntmps9
      go_wp2
      go_ret3
      exact ⟨_, rfl, Dhs.nil w nm⟩
    · by_cases b3 : o > 8192 - (d.length : Int)
      · have e1 : wrS size o d = 0 := if_neg (fun h => by have := h.2.2; omega)
        have e2 : wrE o d = 109 := by unfold wrE; rw [if_neg (by omega), if_pos b3]
        have e3 : wrL o d Ss = [] := if_neg (fun h => by have := h.1.2.2; omega)
        rw [e1, e2, e3]
        rw [← hsz] at b2 b3 hd
        have b4 : ¬ (256 : Int) < (q.size : Int) := by omega
        clear e1 e2 e3 hr hsz hdl
        by_cases b5 : 8192 < o
        · go_enter Tryd.func9, Tryd.ntmps9
          go_wp2
          go_ret3
          exact ⟨_, rfl, Dhs.nil w nm⟩
        · have b6 : (8192 : Int) < o + (q.size : Int) := by omega
          go_enter Tryd.func9, Tryd.ntmps9
          go_wp2
          go_ret3
          exact ⟨_, rfl, Dhs.nil w nm⟩
      · have hok : wrOk o d := ⟨by omega, by omega, by omega⟩
        have e2 : wrE o d = 0 := by unfold wrE; rw [if_neg (by omega), if_neg b3]
        by_cases b5 : d = []
        · have e1 : wrS size o d = size := by unfold wrS; rw [if_pos hok, if_pos b5]
          have e3 : wrL o d Ss = [] := if_neg (fun h => h.2 b5)
          rw [e1, e2, e3]
          have hqe : q = ⟨#[]⟩ := by apply ByteArray.ext; apply Array.ext'; rw [hdl, b5]
          subst hqe
          have b6 : ¬ 8192 < o := by rw [b5] at b3; simp at b3; omega
          clear e1 e2 e3 hr hdl hsz hok b3 b2
          go_enter Tryd.func9, Tryd.ntmps9
          go_wp2
          go_ret3
          exact ⟨_, rfl, Dhs.nil w nm⟩
        · have hlen : 0 < d.length := List.length_pos_iff.2 b5
          have hP' := pcs_eq (o + (d.length : Int))
          obtain ⟨F, hF⟩ : ∃ F, o / 64 = F := ⟨_, rfl⟩
          obtain ⟨Pn, hP⟩ : ∃ Pn, pcs (o + (d.length : Int)) = Pn := ⟨_, rfl⟩
          obtain ⟨M, hM⟩ : ∃ M, (Pn - F).toNat = M := ⟨_, rfl⟩
          obtain ⟨r, hr'⟩ : ∃ r, (o % 64).toNat = r := ⟨_, rfl⟩
          have e1 : wrS size o d = max size (o + (d.length : Int)) := by unfold wrS; rw [if_pos hok, if_neg b5]
          have e3 : wrL o d Ss = difL F (spF Ss) (laid (spF Ss) r d d.length) M := by unfold wrL wrF; rw [if_pos ⟨hok, b5⟩, hF, hP, hM, hr']
          rw [e1, e2, e3]
          have H := refWrite_main nm size o q a n0 c B Ss w hr hB F r M (by omega) (by omega) (by omega) (by omega) (by omega) (by omega) (by omega) (by omega) (by omega)
          rw [hsz, hdl] at H
          exact H
end Go.Proofs.YtcfilepilgjlaaaDoor
