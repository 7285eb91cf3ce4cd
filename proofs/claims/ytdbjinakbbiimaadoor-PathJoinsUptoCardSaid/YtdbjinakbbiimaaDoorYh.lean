/- The document's Join. -/
import Derived.Test.YtdbjinakbbiimaaDoorYg
namespace Go.Proofs.YtdbjinakbbiimaaDoor
open Go.RowKit
set_option linter.unusedVariables false

theorem joinT_first (xs : List (List UInt8)) (h : 0 < xs.length) : Pt.joinT (xs.take 1) = Pt.joinT (xs.take 0) ++ xs.getD 0 [] := by
  cases xs with
  | nil => cases h
  | cons x r => show 47 :: Lib.join [x] [47] = [47] ++ x; rw [Lib.join_one]; rfl
theorem joinT_succ (xs : List (List UInt8)) (k : Nat) (h : 0 < k) (hk : k < xs.length) : Pt.joinT (xs.take (k + 1)) = (Pt.joinT (xs.take k) ++ [47]) ++ xs.getD k [] := by
  cases xs with
  | nil => cases hk
  | cons x r =>
    obtain ⟨j, rfl⟩ : ∃ j, k = j + 1 := ⟨k - 1, by omega⟩
    have hj : j < r.length := by simpa using hk
    have e := Lib.joinTail_take_succ [47] r j r[j] (List.getElem?_eq_getElem hj)
    show 47 :: Lib.join (x :: r.take (j + 1)) [47] = (47 :: Lib.join (x :: r.take j) [47] ++ [47]) ++ (x :: r).getD (j + 1) []
    rw [Lib.join_cons, Lib.join_cons, e]
    have e2 : (x :: r).getD (j + 1) [] = r[j] := by
      rw [List.getD_cons_succ, List.getD_eq_getElem?_getD, List.getElem?_eq_getElem hj]; rfl
    rw [e2]
    simp [List.append_assoc]
theorem app_data (a b : ByteArray) : (a ++ b).data.toList = a.data.toList ++ b.data.toList := by simp [ByteArray.data_append]
theorem map_getD (Ss : List ByteArray) (k : Nat) : (Ss.map (·.data.toList)).getD k [] = (Ss.getD k ⟨#[]⟩).data.toList := by
  rw [List.getD_eq_getElem?_getD, List.getElem?_map, List.getD_eq_getElem?_getD]
  cases Ss[k]? <;> rfl
set_option maxRecDepth 100000 in
set_option maxHeartbeats 3200000 in
theorem rjoin_any (a : Option Addr) (n c B : Nat) (Ss : List ByteArray) (w : World) (h : Strs w B a n Ss) (hB : B ≤ w.heap.size) (hn : n ≤ 8796093022208) (hl : (Lib.join (Ss.map (·.data.toList)) [47]).length ≤ 140737488355328) :
    Calls Tryd.prog 12 #[.slice a n c] w (JoinA (Ss.map (·.data.toList)) w) := by
  obtain ⟨xs, hxs⟩ : ∃ xs, Ss.map (·.data.toList) = xs := ⟨_, rfl⟩
  have hSs : Ss = toB xs := by rw [← hxs, toB_of]
  have hlen := h.len
  have hxl : xs.length = n := by rw [← hxs, List.length_map, hlen]
  have HS := Lib.hid h
  have HL := Lib.hid hlen
  have HBB := Lib.hid hB
  rw [hxs] at hl ⊢
  have HSZ : Hid (∀ k, (Pt.joinT (xs.take k)).length ≤ 140737488355329) := fun k => by
    have h1 := Pt.joinT_take_len xs k
    have h2 : (Pt.joinT xs).length = (Lib.join xs [47]).length + 1 := rfl
    omega
  have HGD : Hid (∀ k, xs.getD k [] = (Ss.getD k ⟨#[]⟩).data.toList) := fun k => by rw [← hxs, map_getD]
  have HJ1 : Hid (0 < n → Pt.joinT (xs.take 1) = Pt.joinT (xs.take 0) ++ xs.getD 0 []) := fun h0 => joinT_first xs (by omega)
  have HJS : Hid (∀ k, 0 < k → k < n → Pt.joinT (xs.take (k + 1)) = (Pt.joinT (xs.take k) ++ [47]) ++ xs.getD k []) := fun k h0 hk => joinT_succ xs k h0 (by omega)
  have HALL : Hid (xs.take n = xs) := List.take_of_length_le (by omega)
  have HSP : Hid (∀ P : ByteArray, P.data.toList = Pt.joinT xs → ∀ W, Calls Tryd.prog 9 #[.string P] W (SplitA (Pt.joinT xs) W)) := fun P hP W => by
    have h2 : (Pt.joinT xs).length = (Lib.join xs [47]).length + 1 := rfl
    have hPz : P.size ≤ maxLen := by
      have e1 : P.data.toList.length = P.size := rfl
      rw [hP] at e1
      unfold maxLen; omega
    have := rsplit_any P W hPz
    rwa [hP] at this
  have HJP : Hid (Pt.joinP xs = if (Pt.splitP (Pt.joinT xs)).2 = 0 then (if (Pt.splitP (Pt.joinT xs)).1 = xs then (Pt.joinT xs, 0) else ([], 107)) else ([], (Pt.splitP (Pt.joinT xs)).2)) := rfl
  have HLE := Lib.hid (splitP_len (Pt.joinT xs))
  have HEQ : Hid (toB (Pt.splitP (Pt.joinT xs)).1 = Ss ↔ (Pt.splitP (Pt.joinT xs)).1 = xs) := by
    show _ ↔ _
    rw [hSs]
    exact ⟨toB_inj, fun e => by rw [e]⟩
  clear h hB hl hxs hSs hlen hxl
  go_enter Tryd.func12, Tryd.ntmps12
  go_wp2
  go_loop [4, 5] (fun v i => ∃ (k : Nat) (p : ByteArray), k ≤ n ∧ i = .int .i64 (k : Int) ∧ v = .string p ∧ Hid (p.data.toList = Pt.joinT (xs.take k))) (fun _ i => n - (intOf i).toNat)
  case atStart => exact ⟨0, ⟨#[47]⟩, Nat.zero_le _, rfl, rfl, rfl⟩
  case round =>
    obtain ⟨k, p, hk, rfl, rfl, HP⟩ := hrel
    by_cases h0 : k < n
    · obtain ⟨b, off, hab, hb, hc⟩ := HS.out.cell (by omega)
      subst hab
      have c1 := hc k h0
      have hgd := HGD.out k
      generalize Ss.getD k ⟨#[]⟩ = x at *
      have hpz : p.size ≤ 140737488355329 := by
        have e1 : p.data.toList.length = p.size := rfl
        rw [HP.out] at e1
        have := HSZ.out k
        omega
      have h1z : (⟨#[47]⟩ : ByteArray).size = 1 := rfl
      by_cases k0 : 0 < k
      · obtain ⟨q1, hq1⟩ : ∃ q1, p ++ (⟨#[47]⟩ : ByteArray) = q1 := ⟨_, rfl⟩
        obtain ⟨q2, hq2⟩ : ∃ q2, q1 ++ x = q2 := ⟨_, rfl⟩
        have hs1 : p.size + (⟨#[47]⟩ : ByteArray).size ≤ 9223372036854775807 := by omega
        have hq2d : q2.data.toList = Pt.joinT (xs.take (k + 1)) := by
          rw [HJS.out k k0 h0, ← hq2, app_data, ← hq1, app_data, HP.out, hgd]
        have hs2 : q1.size + x.size ≤ 9223372036854775807 := by
          have e1 : q2.data.toList.length = q2.size := rfl
          rw [hq2d] at e1
          have := HSZ.out (k + 1)
          have e2 := congrArg ByteArray.size hq2
          rw [ByteArray.size_append] at e2
          omega
        have HQ := Lib.hid hq2d
        clear hq2d hgd hc h1z hpz
        go_wp2
        go_round
        case rel => exact ⟨k + 1, q2, by omega, by go_num, rfl, HQ⟩
        case measure => simp [intOf] <;> omega
      · obtain rfl : k = 0 := by omega
        rw [Nat.add_zero] at c1
        obtain ⟨q2, hq2⟩ : ∃ q2, p ++ x = q2 := ⟨_, rfl⟩
        have hq2d : q2.data.toList = Pt.joinT (xs.take (0 + 1)) := by
          rw [HJ1.out h0, ← hq2, app_data, HP.out, hgd]
        have hs2 : p.size + x.size ≤ 9223372036854775807 := by
          have e1 : q2.data.toList.length = q2.size := rfl
          rw [hq2d] at e1
          have := HSZ.out (0 + 1)
          have e2 := congrArg ByteArray.size hq2
          rw [ByteArray.size_append] at e2
          omega
        have HQ := Lib.hid hq2d
        clear hq2d hgd hc h1z hpz
        go_wp2
        go_round
        case rel => exact ⟨0 + 1, q2, by omega, by go_num, rfl, HQ⟩
        case measure => simp [intOf] <;> omega
    · obtain rfl : k = n := by omega
      have hpd : p.data.toList = Pt.joinT xs := by rw [HP.out, HALL.out]
      have HPQ : Hid (p = ⟨(Pt.joinT xs).toArray⟩) := by show p = _; rw [← hpd]
      have HSPP := Lib.hid (HSP.out p hpd)
      clear hpd HP HSP HJ1 HJS HSZ
      go_upto_region 9 with (go_at_call 9; (with_reducible refine (HSPP.out _).mono ?_); rintro e w2 ⟨a2, n2, c2, rfl, hs2, hc2, hu2, -⟩; have S2 := Lib.hid hs2; have U2 := Lib.hid hu2; have HL2 := Lib.hid hs2.len; clear hs2 hu2)
      obtain ⟨x, hx⟩ : ∃ x, (Pt.splitP (Pt.joinT xs)).2 = x := ⟨_, rfl⟩
      rw [hx] at HJP
      rw [hx]
      clear hx
      by_cases h1 : x = 0
      · subst h1
        have hn2 : n2 ≤ 16 := by have h1 := HL2.out; have h2 := HLE.out; rw [toB_len] at h1; omega
        have HT := Lib.hid (HS.out.grow U2.out HBB.out)
        generalize toB (Pt.splitP (Pt.joinT xs)).1 = Ys at *
        have HYES : Hid (Ys = Ss → Pt.joinP xs = (Pt.joinT xs, 0)) := fun e => by rw [HJP.out, if_pos rfl, if_pos (HEQ.out.1 e)]
        have HNO : Hid (Ys ≠ Ss → Pt.joinP xs = ([], 107)) := fun e => by rw [HJP.out, if_pos rfl, if_neg (fun h => e (HEQ.out.2 h))]
        clear HJP HEQ
        by_cases e : n2 = k
        · subst e
          go_upto_region 14 with fail
          go_loopw [8] (fun i wr => ∃ j : Nat, j ≤ n2 ∧ i = .int .i64 (j : Int) ∧ Hid (Ss.take j = Ys.take j) ∧ Hid (Upd noBlock w2 wr)) (fun i _ => n2 - (intOf i).toNat)
          case atStart => exact ⟨0, Nat.zero_le _, rfl, rfl, Upd.refl _ _⟩
          case round =>
            obtain ⟨j, hj, rfl, HA, HU⟩ := hrel
            by_cases j0 : j < n2
            · obtain ⟨b, off, hab, hb, hc⟩ := (HT.out.grow HU.out (Nat.le_trans HBB.out U2.out.size)).cell (by omega)
              obtain ⟨b', off', hab', hb', hc'⟩ := (S2.out.grow HU.out (Nat.le_refl _)).cell (by omega)
              subst hab hab'
              have c1 := hc j j0
              have c2 := hc' j j0
              have HN := Lib.hid (alike_step Ss Ys j (by rw [HL.out]; exact j0) (by rw [HL2.out]; exact j0) HA.out)
              have HF : Hid (Ss.getD j ⟨#[]⟩ ≠ Ys.getD j ⟨#[]⟩ → Ys ≠ Ss) := fun h e => h (by rw [e])
              generalize Ss.getD j ⟨#[]⟩ = s at *
              generalize Ys.getD j ⟨#[]⟩ = t at *
              clear hc hc'
              by_cases est : s = t
              · have e1 := str_eq est
                have HN2 := Lib.hid (HN.out est)
                clear est
                go_wp2
                go_region
                go_wp2
                go_roundw
                case rel => exact ⟨j + 1, by omega, by go_num, HN2, HU.out.drew⟩
                case measure => simp [intOf] <;> omega
              · have e1 := str_ne est
                have HX := Lib.hid (HNO.out (HF.out est))
                clear est
                go_wp2
                go_region
                go_wp2
                go_ret2
                exact joinA_of HX.out rfl (U2.out.trans HU.out.drew)
            · obtain rfl : j = n2 := by omega
              have HX : Hid (Pt.joinP xs = (Pt.joinT xs, 0)) := by
                have h9 := HA.out
                rw [List.take_of_length_le (by rw [HL.out]; omega), List.take_of_length_le (by rw [HL2.out]; omega)] at h9
                exact HYES.out h9.symm
              go_wp2
              go_ret2
              exact joinA_of HX.out HPQ.out (U2.out.trans HU.out)
        · have HX : Hid (Pt.joinP xs = ([], 107)) := HNO.out fun h => e (by rw [← HL.out, ← HL2.out, h])
          have e2 : ((n2 : Int) != (k : Int)) = true := by rw [bne_iff_ne]; omega
          clear e
          go_wp2_with fail
          go_ret2
          exact joinA_of HX.out rfl U2.out
      · have HX : Hid (Pt.joinP xs = ([], x)) := by show _ = _; rw [HJP.out, if_neg h1]
        have hx0 : (x != 0) = true := by rw [bne_iff_ne]; exact h1
        clear h1
        go_wp2_with fail
        go_ret2
        exact joinA_of HX.out rfl U2.out
end Go.Proofs.YtdbjinakbbiimaaDoor
