import Derived.Test.YtnppjfaecnikpaaGreatDoorRGFb
import Derived.Test.YtnppjfaecnikpaaGreatDoorRGCf
import Derived.Laws.ResultCell
import Derived.Test.YtnppjfaecnikpaaGreatDoorRGNn
import Derived.DataShut
import Derived.Deep.RegionHeld
import Derived.Test.YtnppjfaecnikpaaGreatDoorRCg
import Derived.Test.YtnppjfaecnikpaaGreatDoorRGNC
import Derived.Test.YtnppjfaecnikpaaGreatDoorRGNN
/- decode. -/
namespace Go.Proofs.YtnppjfaecnikpaaGreatDoor
open F
open Go.RowKit Pm Cm
set_option linter.unusedVariables false

theorem extr_take (s : ByteArray) (k : Nat) : s.extract 0 k = ⟨(s.data.toList.take k).toArray⟩ := by
  apply ByteArray.ext
  apply Array.ext'
  exact extract_pre s k
theorem extr_drop (s : ByteArray) (k : Nat) : s.extract k s.size = ⟨(s.data.toList.drop k).toArray⟩ := by
  apply ByteArray.ext
  apply Array.ext'
  show (s.extract k s.size).data.toList = s.data.toList.drop k
  rw [ByteArray.data_extract, Array.toList_extract, List.extract_eq_take_drop, List.take_of_length_le]
  rw [List.length_drop]
  exact Nat.le_refl _
theorem decP_def (t k : Nat) (s : ByteArray) : decP t k s.data.toList = match decA t k (s.extract 0 k) (s.extract k s.size) with
    | none => none
    | some ps => some ((turns (8 * k + 13 * t) (wordOf t (s.extract 0 k) (s.extract k s.size)) ps).take k, ps.length) := by
  rw [extr_take, extr_drop]; rfl
/-- Decode of a piece that can't be decoded, of one that can -/
theorem decode_no (cc t k : Nat) (s : ByteArray) (w : World) (h : CodeP w cc t (k : Int)) (ht1 : 1 ≤ t) (ht8 : t ≤ 8) (hk1 : 1 ≤ k) (hk : k ≤ 256) (hs : s.size = k + (13 * t + 7) / 8) (hd : decP t k s.data.toList = none) :
    Calls Tryz.prog 70 #[.pointer (some ⟨cc, 0, none⟩), .string (s.extract 0 k), .string (s.extract k s.size)] w fun e w' => e = .returned (.tuple #[.string ⟨#[]⟩, .string ⟨#[]⟩, .int .i64 0, .bool false]) ∧ Made w' cc t (k : Int) ∧ Upd (oneBlock cc) w w' :=
  (decode_eq cc t k (s.extract 0 k) (s.extract k s.size) w h ht1 ht8 hk1 hk (by rw [ByteArray.size_extract]; omega) (by rw [ByteArray.size_extract]; omega)).mono fun e w' ⟨he, hm, hu⟩ => by
    rw [decP_def] at hd
    rw [he]
    split at hd
    · rename_i h9
      rw [h9]
      exact ⟨rfl, hm, hu⟩
    · cases hd
theorem decode_yes (cc t k n : Nat) (s : ByteArray) (d : List UInt8) (w : World) (h : CodeP w cc t (k : Int)) (ht1 : 1 ≤ t) (ht8 : t ≤ 8) (hk1 : 1 ≤ k) (hk : k ≤ 256) (hs : s.size = k + (13 * t + 7) / 8) (hd : decP t k s.data.toList = some (d, n)) :
    Calls Tryz.prog 70 #[.pointer (some ⟨cc, 0, none⟩), .string (s.extract 0 k), .string (s.extract k s.size)] w fun e w' => (∃ par, e = .returned (.tuple #[.string ⟨d.toArray⟩, .string par, .int .i64 (n : Int), .bool true])) ∧ Made w' cc t (k : Int) ∧ Upd (oneBlock cc) w w' :=
  (decode_eq cc t k (s.extract 0 k) (s.extract k s.size) w h ht1 ht8 hk1 hk (by rw [ByteArray.size_extract]; omega) (by rw [ByteArray.size_extract]; omega)).mono fun e w' ⟨he, hm, hu⟩ => by
    rw [decP_def] at hd
    rw [he]
    split at hd
    · cases hd
    · rename_i ps h9
      rw [h9]
      simp only [Option.some.injEq, Prod.mk.injEq] at hd
      obtain ⟨rfl, rfl⟩ := hd
      exact ⟨⟨⟨((turns (8 * k + 13 * t) (wordOf t (s.extract 0 k) (s.extract k s.size)) ps).drop k).toArray⟩, rfl⟩, hm, hu⟩
theorem decP_small {t k n : Nat} {s d : List UInt8} (h : decP t k s = some (d, n)) : n ≤ t := by
  unfold decP at h
  split at h
  · cases h
  · rename_i ps h9
    simp only [Option.some.injEq, Prod.mk.injEq] at h
    have := (decA_some h9).2.2.1
    omega
theorem decUp_small {t k : Nat} {P : Nat → List UInt8} : ∀ i b n, decUp t k P i = some (b, n) → n ≤ i * t
  | 0, b, n, h => by
    simp only [decUp_zero, Option.some.injEq, Prod.mk.injEq] at h
    omega
  | i + 1, b, n, h => by
    cases h1 : decUp t k P i with
    | none => rw [decUp_stop h1 (i + 1) (by omega)] at h; cases h
    | some x =>
      obtain ⟨b1, n1⟩ := x
      cases h2 : decP t k (P i) with
      | none => rw [decUp_none h1 h2] at h; cases h
      | some y =>
        obtain ⟨d, m⟩ := y
        rw [decUp_some h1 h2] at h
        simp only [Option.some.injEq, Prod.mk.injEq] at h
        have := decUp_small i b1 n1 h1
        have := decP_small h2
        rw [Nat.succ_mul]; omega
/-- what decode answers -/
def decE (a : Option (List UInt8 × Nat)) : Ending := match a with
  | none => .returned (.tuple #[.string ⟨#[]⟩, .int .i64 0, .bool false])
  | some (b, n) => .returned (.tuple #[.string ⟨b.toArray⟩, .int .i64 (n : Int), .bool true])
set_option maxRecDepth 100000 in
set_option maxHeartbeats 6400000 in
theorem pdecode_any (q : Nat) (b p : Int) (c k t : Nat) (ch bb : Nat) (pb : Nat → Nat) (M : Ch) (cc g : Nat) (f : Nat → ByteArray) (w : World) (hG : GoodG b p c k t) (h : PgrIn w q b p c k t ch bb pb M cc) (hT : TR w g c f) (hf : ∀ j, j < c → (f j).size = k + (13 * t + 7) / 8) :
    Calls Tryz.prog 45 #[.pointer (some ⟨q, 0, none⟩), .slice (some ⟨g, 0, none⟩) c c] w fun e w' => e = decE (decUp t k (fun j => (f j).data.toList) c) ∧ CodeP w' cc t (k : Int) ∧ Upd (oneBlock cc) w w' := by
  obtain ⟨b1, b2, p1, p2, p4, c1, c2, k1, k2, t1, t2⟩ := hG
  clear b1 b2 p1 p2 p4
  have hnot : ∀ (x : Bool) (w : World), (Op.unary .not (.bool x)).run Tryz.prog w = .ok (.bool (!x)) w := fun _ _ => rfl
  have ht1 : 1 ≤ t := by omega
  have ht8 : t ≤ 8 := by omega
  have hk1 : 1 ≤ k := by omega
  have hk2 : k ≤ 256 := by omega
  have HNO := Lib.hid (fun j W (hj : j < c) (hW : CodeP W cc t (k : Int)) hd => decode_no cc t k (f j) W hW ht1 ht8 hk1 hk2 (hf j hj) hd)
  have HYES := Lib.hid (fun j n d W (hj : j < c) (hW : CodeP W cc t (k : Int)) hd => decode_yes cc t k n (f j) d W hW ht1 ht8 hk1 hk2 (hf j hj) hd)
  have HSZ := Lib.hid (fun j (hj : j < c) => hf j hj)
  have HLEN := Lib.hid (fun i (hi : i ≤ c) b n hd => decUp_len (t := t) (k := k) (P := fun j => (f j).data.toList) c (fun i hi => by have := hf i hi; show k ≤ (f i).size; omega) i hi b n hd)
  have HSM := Lib.hid (fun i b n hd => decUp_small (t := t) (k := k) (P := fun j => (f j).data.toList) i b n hd)
  have HSOME := Lib.hid (fun i n m b d h h2 => decUp_some (t := t) (k := k) (P := fun j => (f j).data.toList) (i := i) (n := n) (m := m) (b := b) (d := d) h h2)
  have HSTOP := Lib.hid (fun i n b (hi : i < c) h h2 => decUp_stop (decUp_none (t := t) (k := k) (P := fun j => (f j).data.toList) (i := i) (n := n) (b := b) h h2) c hi)
  have HQ : Hid (∀ W, Upd (oneBlock cc) w W → W.cell? ⟨q, 3, none⟩ = some (.int .i64 (k : Int)) ∧ W.cell? ⟨q, 6, none⟩ = some (.pointer (some ⟨cc, 0, none⟩))) := fun W hW => by
    have h9 := h.pg.upd hW (fun e => h.q_cc e)
    exact ⟨h9.c3, h9.c6⟩
  have HC : Hid (∀ W j, Upd (oneBlock cc) w W → j < c → W.cell? ⟨g, j, none⟩ = some (.string (f j))) := fun W j hW hj => by
    obtain ⟨x, hx⟩ := h.code.block
    obtain ⟨y, hy⟩ := hT.block
    exact (hT.upd hW (fun e => apart hy hx (by decide) e)).cell j hj
  have HP0 := Lib.hid (PB.start h.code)
  have HD0 : Hid (decUp t k (fun j => (f j).data.toList) 0 = some ([], 0)) := rfl
  obtain ⟨D, hD⟩ : ∃ D, decUp t k (fun j => (f j).data.toList) = D := ⟨_, rfl⟩
  rw [hD] at HLEN HSM HSOME HSTOP HD0 ⊢
  clear hf h hT hD
  obtain ⟨B, hB⟩ : ∃ B, B = w.heap.size := ⟨_, rfl⟩
  go_enter Tryz.func45, Tryz.ntmps45
  go_wp2
  rw [← hB] at HP0 ⊢
  clear hB
  go_loopw [8, 18] (fun s i wr => ∃ (j n : Nat) (l : List UInt8), j ≤ c ∧ i = .int .i64 (j : Int) ∧ s = .int .i64 (n : Int) ∧ Hid (D j = some (l, n)) ∧ Hid (PB w cc t (k : Int) B l wr)) (fun _ i _ => c - (intOf i).toNat)
  case atStart => exact ⟨0, 0, [], Nat.zero_le _, rfl, rfl, HD0, HP0⟩
  case round =>
    clear HP0 HD0
    obtain ⟨j, n, l, hj, rfl, rfl, HD, HP⟩ := hrel
    by_cases h0 : j < c
    · obtain ⟨z3, z6⟩ := HQ.out wr HP.out.u
      have zj := HC.out wr j HP.out.u h0
      have hn := HSM.out j l n HD.out
      have hn2 : n ≤ 32 := Nat.le_trans hn (Nat.mul_le_mul (show j ≤ 4 by omega) ht8)
      have hl := HLEN.out j hj l n HD.out
      have hl2 : l.length ≤ 1024 := by rw [hl]; exact Nat.mul_le_mul (show j ≤ 4 by omega) hk2
      have hsz := HSZ.out j h0
      have HL2 := Lib.hid hl2
      clear hn hl hl2
      have HNO1 := Lib.hid (fun W hW hd => HNO.out j W h0 hW hd)
      have HYES1 := Lib.hid (fun n d W hW hd => HYES.out j n d W h0 hW hd)
      have HSO1 := Lib.hid (fun m d h2 => HSOME.out j n m l d HD.out h2)
      have HST1 := Lib.hid (fun h2 => HSTOP.out j n l h0 HD.out h2)
      obtain ⟨s, hs⟩ : ∃ s, f j = s := ⟨_, rfl⟩
      rw [hs] at HNO1 HYES1 HSO1 HST1 zj hsz
      have hks : k ≤ s.size := by omega
      have hs2 : s.size ≤ 4096 := by omega
      have hmin : min (k : Int) (s.size : Int) = (k : Int) := by omega
      clear hs hsz
      have HK : Hid (∀ W, Hid (PB w cc t (k : Int) B l W) → W.cell? ⟨q, 6, none⟩ = some (.pointer (some ⟨cc, 0, none⟩)) ∧ Hid (PB w cc t (k : Int) B l W)) := fun W h => ⟨(HQ.out W h.out.u).2, h⟩
      cases hd : decP t k s.data.toList with
      | none =>
        have HN := Lib.hid (fun W hW => HNO1.out W hW hd)
        have HE := Lib.hid (HST1.out hd)
        clear HNO1 HYES1 HSO1 HST1 hd
        go_upto_region 7 with fail
        go_region_held3 (fun W => W.cell? ⟨q, 6, none⟩ = some (.pointer (some ⟨cc, 0, none⟩)) ∧ Hid (PB w cc t (k : Int) B l W))
          (first | exact HK.out _ HP | exact HK.out _ HP.out.drew | exact HK.out _ SW)
          (first | (go_at_call 70; go_split_ands; (with_reducible refine (HN.out _ (PB.code (Hid.out (by assumption)))).mono ?_); rintro e w5 ⟨rfl, hm5, hu5⟩; have SW : Hid (PB w cc t (k : Int) B l w5) := PB.coded (Hid.out (by assumption)) hm5 hu5; clear hm5 hu5))
        all_goals
          go_wp2_with fail
          go_returns
          exact ⟨by rw [HE.out]; rfl, SW.out.code, SW.out.u⟩
      | some x =>
        obtain ⟨d, m⟩ := x
        have HY := Lib.hid (fun W hW => HYES1.out m d W hW hd)
        have HE := Lib.hid (HSO1.out m d hd)
        have hm := decP_small hd
        have hdl := decP_len (show k ≤ s.data.toList.length from hks) hd
        have HWR : Hid (∀ W, PB w cc t (k : Int) B l W → Calls Tryz.prog 63 #[.pointer (some ⟨B, 0, none⟩), .string ⟨d.toArray⟩] W fun e w' => (∃ z, e = .returned (.tuple #[.int .i64 z, .nilIface])) ∧ PB w cc t (k : Int) B (l ++ d) w') := fun W hW =>
          (bwrite_any B B l ⟨d.toArray⟩ W hW.bl (by
            have h2 : (⟨d.toArray⟩ : ByteArray).size = d.length := by simp [ByteArray.size]
            have := HL2.out
            omega) hW.lt).mono fun e w' ⟨h1, h2, h3⟩ => ⟨⟨_, h1⟩, hW.wrote h2 h3⟩
        clear HNO1 HYES1 HSO1 HST1 hd hdl
        go_upto_region 7 with fail
        go_region_held3 (fun W => W.cell? ⟨q, 6, none⟩ = some (.pointer (some ⟨cc, 0, none⟩)) ∧ Hid (PB w cc t (k : Int) B l W))
          (first | exact HK.out _ HP | exact HK.out _ HP.out.drew | exact HK.out _ SW)
          (first | (go_at_call 70; go_split_ands; (with_reducible refine (HY.out _ (PB.code (Hid.out (by assumption)))).mono ?_); rintro e w5 ⟨⟨par, rfl⟩, hm5, hu5⟩; have SW : Hid (PB w cc t (k : Int) B l w5) := PB.coded (Hid.out (by assumption)) hm5 hu5; clear hm5 hu5))
        all_goals
          clear HP
          go_wp2_with (go_at_call 63; (with_reducible refine (HWR.out _ SW.out).mono ?_); rintro e w7 ⟨⟨z7, rfl⟩, hp7⟩; have P7 := Lib.hid hp7; clear hp7)
          go_roundw
          case rel => exact ⟨j + 1, n + m, l ++ d, by omega, by go_num, by go_num, HE, P7⟩
          case measure => simp [intOf]; omega
    · obtain rfl : j = c := by omega
      have HS := Lib.hid (bstring_any B B l wr HP.out.bl HP.out.lt)
      go_wp2_with (go_at_call 64; (with_reducible refine HS.out.mono ?_); rintro e w3 ⟨rfl, hb3, hu3⟩; have P3 := Lib.hid (HP.out.wrote hb3 hu3); clear hb3 hu3)
      go_returns
      exact ⟨by rw [HD.out]; rfl, P3.out.code, P3.out.u⟩
end Go.Proofs.YtnppjfaecnikpaaGreatDoor

/- Write, Read. -/
namespace Go.Proofs.YtnppjfaecnikpaaGreatDoor
open F
open Go.RowKit Pm Cm
set_option linter.unusedVariables false

theorem toInt_mul (c k : Nat) (h7 : 7 ≤ c * k) : (c : Int) * (k : Int) - 7 = ((c * k - 7 : Nat) : Int) := by
  have : (c : Int) * (k : Int) = ((c * k : Nat) : Int) := by push_cast; rfl
  omega
set_option maxRecDepth 100000 in
set_option maxHeartbeats 3200000 in
theorem write_gen (q : Nat) (b p : Int) (c k t : Nat) (ch bb : Nat) (pb : Nat → Nat) (M M' : Ch) (cc : Nat) (x y r : Int) (s : ByteArray) (w : World) (hG : GoodG b p c k t) (h : PgrIn w q b p c k t ch bb pb M cc) (hT : Tab w) (hs : s.size ≤ c * k - 7)
    (HPR : ∀ W, ChipIn W ch bb pb M → Calls Tryz.prog 24 #[.pointer (some ⟨ch, 0, none⟩), .int .i64 x, .int .i64 y, .string ⟨(pageL t k c s.data.toList).toArray⟩] W fun e w' => e = .returned (.int .i64 r) ∧ ChipIn w' ch bb pb M' ∧ Upd (Own ch bb pb M.nb) W w') :
    Calls Tryz.prog 18 #[.pointer (some ⟨q, 0, none⟩), .int .i64 x, .int .i64 y, .string s] w fun e w' => e = .returned (.int .i64 r) ∧ PgrIn w' q b p c k t ch bb pb M' cc ∧ Upd (POwn ch bb pb M.nb cc) w w' := by
  have HPAY := Lib.hid (fun W => payload_any b p c k t W hG)
  have HBODY := Lib.hid (fun W (hW : Upd noBlock w W) => pbody_any q b p c k t ch cc s W hG (h.pg.keep hW) (hT.upd hW) hs)
  have m1 : 16 ≤ c * k := by have := Nat.mul_le_mul (show 1 ≤ c by have := hG.c1; omega) (show 16 ≤ k by have := hG.k1; omega); omega
  have hbl := bodyL_length (n := c * k - 7) (l := s.data.toList) hs
  have HRAWP := Lib.hid (fun W (hW : Upd noBlock w W) => praw_any q b p c k t ch bb pb M cc ⟨(bodyL (c * k - 7) s.data.toList).toArray⟩ W hG (h.keep hW) (by show (bodyL (c * k - 7) s.data.toList).toArray.size = _; rw [List.size_toArray, hbl]; omega))
  have HPG : Hid (rawUp t k (⟨(bodyL (c * k - 7) s.data.toList).toArray⟩ : ByteArray).data.toList c = pageL t k c s.data.toList) := rfl
  rw [HPG.out] at HRAWP
  have HI := Lib.hid (fun W (hW : Upd (oneBlock cc) w W) (hm : CodeP W cc t (k : Int)) => h.coded hW hm)
  have HPR' := Lib.hid HPR
  rw [toInt_mul c k (by omega)] at HPAY
  obtain ⟨n, hn⟩ : ∃ n, c * k - 7 = n := ⟨_, rfl⟩
  rw [hn] at HPAY hs HBODY HRAWP
  generalize pageL t k c s.data.toList = pl at *
  generalize bodyL n s.data.toList = bl at *
  clear hn m1 hG hbl HPG HPR hT
  have d1 : decide (n < s.size) = false := decide_eq_false (by omega)
  have d2 : decide ((n : Int) < (s.size : Int)) = false := decide_eq_false (by omega)
  have z0 := h.pg.c0
  have z1 := h.pg.c1
  have z2 := h.pg.c2
  have z3 := h.pg.c3
  have z4 := h.pg.c4
  have HQ : Hid (∀ W, Hid (PgrB W q b p (c : Int) (k : Int) (t : Int) ch cc) → W.cell? ⟨q, 5, none⟩ = some (.pointer (some ⟨ch, 0, none⟩)) ∧ Hid (PgrB W q b p (c : Int) (k : Int) (t : Int) ch cc)) := fun W hW => ⟨hW.out.c5, hW⟩
  have HP1 : Hid (∀ W, Upd noBlock w W → PgrB W q b p (c : Int) (k : Int) (t : Int) ch cc) := fun W hW => h.pg.keep hW
  clear h
  unfold geoV at HPAY
  go_enter Tryz.func18, Tryz.ntmps18
  go_upto_region 5 with (first
    | (go_at_call 33; (with_reducible refine (HPAY.out _).mono ?_); rintro e w1 ⟨rfl, hu1⟩; have U1 := Lib.hid hu1; clear hu1))
  have SR := Lib.hid (HP1.out _ U1.out)
  go_region_held3 (fun W => W.cell? ⟨q, 5, none⟩ = some (.pointer (some ⟨ch, 0, none⟩)) ∧ Hid (PgrB W q b p (c : Int) (k : Int) (t : Int) ch cc))
    (first | exact HQ.out _ SC | exact HQ.out _ SB | exact HQ.out _ SA | exact HQ.out _ SR | exact HQ.out (World.drew _) SR)
    (first
      | (go_at_call 40; (with_reducible refine (HBODY.out _ (by first | exact U1.out | exact U1.out.drew)).mono ?_); rintro e w5 ⟨rfl, hu5⟩; have U5 : Hid (Upd noBlock w w5) := Lib.hid (by first | exact U1.out.trans hu5 | exact U1.out.drew.trans hu5); have SA : Hid (PgrB w5 q b p (c : Int) (k : Int) (t : Int) ch cc) := HP1.out _ U5.out; clear hu5)
      | (go_at_call 39; (with_reducible refine (HRAWP.out _ U5.out).mono ?_); rintro e w6 ⟨rfl, hc6, hu6⟩; have U6 : Hid (Upd (oneBlock cc) w w6) := (POwn.none U5.out).trans hu6; have I6 := Lib.hid (HI.out _ U6.out hc6); have SB : Hid (PgrB w6 q b p (c : Int) (k : Int) (t : Int) ch cc) := I6.out.pg; clear hu6 hc6)
      | (go_at_call 24; (with_reducible refine (HPR'.out _ I6.out.chip).mono ?_); rintro e w7 ⟨rfl, hc7, hu7⟩; have U7 : Hid (Upd (POwn ch bb pb M.nb cc) w w7) := (POwn.code U6.out).trans (POwn.chip hu7); have I7 := Lib.hid (I6.out.chipped hu7 hc7); have SC : Hid (PgrB w7 q b p (c : Int) (k : Int) (t : Int) ch cc) := I7.out.pg; clear hu7 hc7))
  all_goals
    go_wp2_with fail
    go_ret
    exact ⟨rfl, I7.out, U7.out⟩
end Go.Proofs.YtnppjfaecnikpaaGreatDoor

/- Read. -/
namespace Go.Proofs.YtnppjfaecnikpaaGreatDoor
open F
open Go.RowKit Pm Cm
set_option linter.unusedVariables false
attribute [local irreducible] openL decUp empUp

theorem ret_cell2F {P : Program} {fn : Func} {p u : Tmp} {ty : TypeId} (h : fn.results = #[.cell p ty, .tmp u]) (tmps : Array Value) (w : World) (g : Nat) (t : TypeId) (cs : Array Value) (fr : Nat × Nat) (d : TypeDesc) (b : Value)
    (hp : tmps.getD p undef = .pointer (some ⟨g, 0, none⟩)) (hg : w.heap[g]? = some (.cells cs t fr))
    (hu : P.underlying ty = some d) (hd : (match d with | .struct _ | .array _ _ => true | _ => false) = true) (hi : (P.info? ty).map (·.size) = some cs.size) (hb : tmps.getD u undef = b) :
    (results fn tmps).run P w = .ok (.tuple #[.agg cs, b]) w := by
  have hp' : tmps[p]?.getD undef = .pointer (some ⟨g, 0, none⟩) := by simpa using hp
  rw [results_cell_tmp h, hp, hb]
  simp [asAddr, Result.andThen, run_loadVar_row w g t ty cs fr d hg hu hd hi]
/-- a block of another kind than a pager's turns -/
theorem PgrIn.alien {w w' : World} {q : Nat} {b p : Int} {c k t : Nat} {ch bb : Nat} {pb : Nat → Nat} {M : Ch} {cc g : Nat} {y : Array Value} {T : TypeId} (h : PgrIn w q b p c k t ch bb pb M cc) (hy : w.heap[g]? = some (.cells y T (0, 0)))
    (hT : ¬ 77 = T ∧ ¬ 5 = T ∧ ¬ 132 = T ∧ ¬ 3 = T ∧ ¬ T = 85 ∧ ¬ T = 90 ∧ ¬ T = 106) (hu : Upd (oneBlock g) w w') : PgrIn w' q b p c k t ch bb pb M cc := by
  obtain ⟨x, hx⟩ := h.code.block
  obtain ⟨t1, t2, t3, t4, t5, t6, t7⟩ := hT
  refine ⟨h.pg.upd hu (fun e => apart h.pg hy t1 e), h.chip.upd hu (fun i hi e => ?_) (fun g' a z hg e => apart hg hy t2 e), h.code.by hu (fun e => apart hx hy t3 e) (fun g' a z hg e => apart hg hy t4 e)⟩
  have e' : i = g := e
  rw [e'] at hi
  rcases hi with e1 | e1 | ⟨b, hb, e1⟩
  · exact apart hy h.chip.top t5 e1
  · obtain ⟨z, hz⟩ := row_block h.chip.blks
    exact apart hy hz t6 e1
  · obtain ⟨z, hz⟩ := (h.chip.pgs b hb).block
    exact apart hy hz t7 e1
/-- a pager beside what Read makes -/
structure PR (w : World) (q : Nat) (b p : Int) (c k t : Nat) (ch bb : Nat) (pb : Nat → Nat) (nb : Nat) (M : Ch) (cc r0 : Nat) (W : World) : Prop where
  i : PgrIn W q b p c k t ch bb pb M cc
  u : Upd (POwn ch bb pb nb cc) w W
  r : W.heap[r0]? = some (.cells #[.int .i64 0, .string ⟨#[]⟩, .int .i64 0] 51 (0, 0))
  r1 : w.heap.size ≤ r0
  c1 : cc < w.heap.size
section
variable {w W W' : World} {q : Nat} {b p : Int} {c k t : Nat} {ch bb nb : Nat} {pb : Nat → Nat} {M : Ch} {cc r0 : Nat}
theorem PR.coded (h : PR w q b p c k t ch bb pb nb M cc r0 W) (hi : CodeP W' cc t (k : Int)) (hu : Upd (oneBlock cc) W W') : PR w q b p c k t ch bb pb nb M cc r0 W' := by
  have h1 := h.r1
  have h2 := h.c1
  exact ⟨h.i.coded hu hi, h.u.trans (hu.mono fun _ _ e => .inr e), (hu.block r0 (lt_of_block h.r) (fun e => by have e' : r0 = cc := e; omega)).trans h.r, h1, h2⟩
theorem PR.quiet (h : PR w q b p c k t ch bb pb nb M cc r0 W) (hu : Upd noBlock W W') : PR w q b p c k t ch bb pb nb M cc r0 W' :=
  ⟨h.i.keep hu, h.u.trans (POwn.none hu), (hu.block r0 (lt_of_block h.r) (fun e => e)).trans h.r, h.r1, h.c1⟩
theorem PR.cells (h : PR w q b p c k t ch bb pb nb M cc r0 W) : W.cell? ⟨r0, 0, none⟩ = some (.int .i64 0) ∧ W.cell? ⟨r0, 1, none⟩ = some (.string ⟨#[]⟩) ∧ W.cell? ⟨r0, 2, none⟩ = some (.int .i64 0) ∧ W.frozen? ⟨r0, 0, none⟩ = false ∧ W.frozen? ⟨r0, 1, none⟩ = false ∧ W.frozen? ⟨r0, 2, none⟩ = false :=
  ⟨cell_of h.r 0, cell_of h.r 1, cell_of h.r 2, free_of h.r 0, free_of h.r 1, free_of h.r 2⟩
end
theorem fndInfo : (Tryz.prog.info? 51).map (·.size) = some 3 := by kernel_rfl
theorem PR.found {w W : World} {q : Nat} {b p : Int} {c k t : Nat} {ch bb nb : Nat} {pb : Nat → Nat} {M : Ch} {cc r0 : Nat} (h : PR w q b p c k t ch bb pb nb M cc r0 W) (x y z : Value) :
    (((W.setCell ⟨r0, 0, none⟩ x).setCell ⟨r0, 1, none⟩ y).setCell ⟨r0, 2, none⟩ z).heap[r0]? = some (.cells #[x, y, z] 51 (0, 0)) ∧ PgrIn (((W.setCell ⟨r0, 0, none⟩ x).setCell ⟨r0, 1, none⟩ y).setCell ⟨r0, 2, none⟩ z) q b p c k t ch bb pb M cc ∧ Upd (POwn ch bb pb nb cc) w (((W.setCell ⟨r0, 0, none⟩ x).setCell ⟨r0, 1, none⟩ y).setCell ⟨r0, 2, none⟩ z) := by
  have hu : Upd (oneBlock r0) W (((W.setCell ⟨r0, 0, none⟩ x).setCell ⟨r0, 1, none⟩ y).setCell ⟨r0, 2, none⟩ z) :=
    (((Upd.refl (oneBlock r0) W).setCell (p := ⟨r0, 0, none⟩) (.inl rfl) x).setCell (p := ⟨r0, 1, none⟩) (.inl rfl) y).setCell (p := ⟨r0, 2, none⟩) (.inl rfl) z
  refine ⟨block_set (block_set (block_set h.r x) y) z, h.i.alien h.r (by decide) hu, h.u.step hu fun i hi e => ?_⟩
  have e' : i = r0 := e
  have := h.r1
  omega
set_option maxRecDepth 100000 in
set_option maxHeartbeats 3200000 in
theorem pread_gen (q : Nat) (b p : Int) (c k t : Nat) (ch bb : Nat) (pb : Nat → Nat) (M M' : Ch) (cc : Nat) (x y : Int) (raw : ByteArray) (w : World) (hG : GoodG b p c k t) (h : PgrIn w q b p c k t ch bb pb M cc) (hr : raw.size = rawN t k c)
    (hT : ∀ W, Upd (POwn ch bb pb M.nb cc) w W → Tab W) (hnb : M'.nb = M.nb)
    (HRD : ∀ W, ChipIn W ch bb pb M → Calls Tryz.prog 17 #[.pointer (some ⟨ch, 0, none⟩), .int .i64 x, .int .i64 y] W fun e w' => e = .returned (.tuple #[.string raw, .int .i64 0]) ∧ ChipIn w' ch bb pb M' ∧ Upd (Own ch bb pb M.nb) W w') :
    Calls Tryz.prog 21 #[.pointer (some ⟨q, 0, none⟩), .int .i64 x, .int .i64 y] w fun e w' => e = .returned (.tuple #[(foundL t k c (pieceL raw.data.toList (k + (13 * t + 7) / 8))).val, .int .i64 0]) ∧ PgrIn w' q b p c k t ch bb pb M' cc ∧ Upd (POwn ch bb pb M.nb cc) w w' := by
  have hnot : ∀ (x : Bool) (w : World), (Op.unary .not (.bool x)).run Tryz.prog w = .ok (.bool (!x)) w := fun _ _ => rfl
  obtain ⟨r0, hr0⟩ : ∃ r0, r0 = w.heap.size := ⟨_, rfl⟩
  obtain ⟨wa, hwa⟩ : ∃ wa, wa = w.alloc (.cells #[.int .i64 0, .string ⟨#[]⟩, .int .i64 0] 51) := ⟨_, rfl⟩
  have UA : Hid (Upd noBlock w wa) := by rw [hwa]; exact (Upd.refl _ _).alloc _
  have RA : Hid (wa.heap[r0]? = some (.cells #[.int .i64 0, .string ⟨#[]⟩, .int .i64 0] 51 (0, 0))) := by rw [hwa, hr0]; exact heap_alloc_new w _
  have IA := Lib.hid (h.keep UA.out)
  have HOW : Hid (∀ i, Own ch bb pb M.nb i → i < w.heap.size) := fun i hi => h.chip.lt hi
  have HC1 : Hid (cc < w.heap.size) := h.code.lt
  have HRD' : Hid (∀ W, Upd noBlock wa W → Calls Tryz.prog 17 #[.pointer (some ⟨ch, 0, none⟩), .int .i64 x, .int .i64 y] W fun e w' => e = .returned (.tuple #[.string raw, .int .i64 0]) ∧ PR w q b p c k t ch bb pb M.nb M' cc r0 w') := fun W hW =>
    (HRD W (IA.out.keep hW).chip).mono fun e w' ⟨he, hc, hu⟩ => ⟨he, (IA.out.keep hW).chipped hu hc, (POwn.none (UA.out.trans hW)).trans (POwn.chip hu), (hu.block r0 (Nat.lt_of_lt_of_le (lt_of_block RA.out) hW.size) (fun e => by have := HOW.out r0 e; omega)).trans ((hW.block r0 (lt_of_block RA.out) (fun e => e)).trans RA.out), Nat.le_of_eq hr0.symm, HC1.out⟩
  have HPC : Hid (∀ W, PR w q b p c k t ch bb pb M.nb M' cc r0 W → Calls Tryz.prog 43 #[.pointer (some ⟨q, 0, none⟩), .string raw] W fun e w' => ∃ g, e = .returned (.slice (some ⟨g, 0, none⟩) c c) ∧ TR w' g c (fun j => pcT raw (k + (13 * t + 7) / 8) j) ∧ PR w q b p c k t ch bb pb M.nb M' cc r0 w') := fun W hW =>
    (pieces_any q b p c k t ch bb pb M' cc raw W hG hW.i hr).mono fun e w' ⟨g, he, hT, _, hp⟩ => ⟨g, he, hT, hW.coded hp.i.code hp.u⟩
  have hsz : ∀ j, j < c → (pcT raw (k + (13 * t + 7) / 8) j).size = k + (13 * t + 7) / 8 := fun j hj => pcT_size raw _ j c hr hj
  have hfe : (fun j => (pcT raw (k + (13 * t + 7) / 8) j).data.toList) = pieceL raw.data.toList (k + (13 * t + 7) / 8) := funext fun j => pcT_list raw _ j
  have HEM : Hid (∀ g W, TR W g c (fun j => pcT raw (k + (13 * t + 7) / 8) j) → PR w q b p c k t ch bb pb M.nb M' cc r0 W → Calls Tryz.prog 44 #[.pointer (some ⟨q, 0, none⟩), .slice (some ⟨g, 0, none⟩) c c] W fun e w' => e = .returned (.bool (empUp t (pieceL raw.data.toList (k + (13 * t + 7) / 8)) c)) ∧ TR w' g c (fun j => pcT raw (k + (13 * t + 7) / 8) j) ∧ PR w q b p c k t ch bb pb M.nb M' cc r0 w') := fun g W hT hW => by
    have h9 := empty_any q b p c k t ch cc g _ W hW.i.pg hT (by have := hG.c2; omega) (by have := hG.t2; omega) (fun j hj => by rw [hsz j hj]; have := hG.t2; have := hG.k2; omega)
    rw [hfe] at h9
    exact h9.mono fun e w' ⟨he, hu⟩ => ⟨he, hT.grow hu, hW.quiet hu⟩
  have HDE : Hid (∀ g W, TR W g c (fun j => pcT raw (k + (13 * t + 7) / 8) j) → PR w q b p c k t ch bb pb M.nb M' cc r0 W → Calls Tryz.prog 45 #[.pointer (some ⟨q, 0, none⟩), .slice (some ⟨g, 0, none⟩) c c] W fun e w' => e = decE (decUp t k (pieceL raw.data.toList (k + (13 * t + 7) / 8)) c) ∧ PR w q b p c k t ch bb pb M.nb M' cc r0 w') := fun g W hT hW => by
    have h9 := pdecode_any q b p c k t ch bb pb M' cc g _ W hG hW.i hT hsz
    rw [hfe] at h9
    exact h9.mono fun e w' ⟨he, hc, hu⟩ => ⟨he, hW.coded hc hu⟩
  have HTAB : Hid (∀ W, PR w q b p c k t ch bb pb M.nb M' cc r0 W → Tab W) := fun W hW => hT W hW.u
  have hbl : ∀ b n, decUp t k (pieceL raw.data.toList (k + (13 * t + 7) / 8)) c = some (b, n) → b.length = c * k := fun b n hd => by
    refine decUp_len c (fun i hi => ?_) c (Nat.le_refl _) b n hd
    rw [← hfe]
    show k ≤ (pcT raw (k + (13 * t + 7) / 8) i).size
    rw [hsz i hi]; omega
  have hck : c * k ≤ 1024 := Nat.mul_le_mul (show c ≤ 4 by have := hG.c2; omega) (show k ≤ 256 by have := hG.k2; omega)
  have ZQ := IA.out.pg.c5
  unfold foundL
  obtain ⟨P, hP⟩ : ∃ P, pieceL raw.data.toList (k + (13 * t + 7) / 8) = P := ⟨_, rfl⟩
  rw [hP] at HEM HDE hbl ⊢
  clear hP hfe hsz HRD hT h hr hG
  by_cases h0 : empUp t P c = true
  · rw [if_pos h0]
    rw [h0] at HEM
    clear h0 hbl HDE
    go_enter Tryz.func21, Tryz.ntmps21
    go_upto_region 1 with fail
    rw [← hwa, ← hr0]
    clear hwa hr0
    go_wp2_with (first
      | (go_at_call 17; (with_reducible refine (HRD'.out _ (Upd.refl _ _)).mono ?_); rintro e w2 ⟨rfl, hp2⟩; have P2 := Lib.hid hp2; clear hp2)
      | (go_at_call 43; (with_reducible refine (HPC.out _ P2.out).mono ?_); rintro e w3 ⟨g, rfl, ht3, hp3⟩; have T3 := Lib.hid ht3; have P3 := Lib.hid hp3; clear ht3 hp3)
      | (go_at_call 44; (with_reducible refine (HEM.out _ _ T3.out P3.out).mono ?_); rintro e w4 ⟨rfl, ht4, hp4⟩; have T4 := Lib.hid ht4; have P4 := Lib.hid hp4; obtain ⟨y0, y1, y2, f0, f1, f2⟩ := hp4.cells; clear ht4 hp4))
    obtain ⟨h1, h2, h3⟩ := P4.out.found _ _ _
    exact bodyPost_ret_by (ret_cell2F rfl _ _ r0 _ _ _ _ _ rfl h1 Tryz.underlying51 rfl fndInfo rfl) rfl ⟨rfl, h2, h3⟩
  · rw [if_neg h0]
    have h0' : empUp t P c = false := by simpa using h0
    rw [h0'] at HEM
    clear h0 h0'
    cases hd : decUp t k P c with
    | none =>
      simp only []
      rw [hd] at HDE
      unfold decE at HDE
      clear hd hbl
      go_enter Tryz.func21, Tryz.ntmps21
      go_upto_region 1 with fail
      rw [← hwa, ← hr0]
      clear hwa hr0
      go_wp2_with (first
        | (go_at_call 17; (with_reducible refine (HRD'.out _ (Upd.refl _ _)).mono ?_); rintro e w2 ⟨rfl, hp2⟩; have P2 := Lib.hid hp2; clear hp2)
        | (go_at_call 43; (with_reducible refine (HPC.out _ P2.out).mono ?_); rintro e w3 ⟨g, rfl, ht3, hp3⟩; have T3 := Lib.hid ht3; have P3 := Lib.hid hp3; clear ht3 hp3)
        | (go_at_call 44; (with_reducible refine (HEM.out _ _ T3.out P3.out).mono ?_); rintro e w4 ⟨rfl, ht4, hp4⟩; have T4 := Lib.hid ht4; have P4 := Lib.hid hp4; obtain ⟨y0, y1, y2, f0, f1, f2⟩ := hp4.cells; clear ht4 hp4)
        | (go_at_call 45; (with_reducible refine (HDE.out _ _ T4.out P4.out).mono ?_); rintro e w5 ⟨rfl, hp5⟩; have P5 := Lib.hid hp5; obtain ⟨y0, y1, y2, f0, f1, f2⟩ := hp5.cells; clear hp5))
      obtain ⟨h1, h2, h3⟩ := P5.out.found _ _ _
      exact bodyPost_ret_by (ret_cell2F rfl _ _ r0 _ _ _ _ _ rfl h1 Tryz.underlying51 rfl fndInfo rfl) rfl ⟨rfl, h2, h3⟩
    | some bn =>
      obtain ⟨b, n⟩ := bn
      have hb := hbl b n hd
      rw [hd] at HDE
      unfold decE at HDE
      simp only []
      have hbs : (⟨b.toArray⟩ : ByteArray).size ≤ 281474976710656 := by show b.toArray.size ≤ _; rw [List.size_toArray, hb]; omega
      clear hd hbl
      cases ho : openL b with
      | none =>
        have HOP := Lib.hid (fun W hW => open_no ⟨b.toArray⟩ W (openL_none ho) hbs hW)
        clear ho hb
        simp only []
        go_enter Tryz.func21, Tryz.ntmps21
        go_upto_region 1 with fail
        rw [← hwa, ← hr0]
        clear hwa hr0
        go_wp2_with (first
          | (go_at_call 17; (with_reducible refine (HRD'.out _ (Upd.refl _ _)).mono ?_); rintro e w2 ⟨rfl, hp2⟩; have P2 := Lib.hid hp2; clear hp2)
          | (go_at_call 43; (with_reducible refine (HPC.out _ P2.out).mono ?_); rintro e w3 ⟨g, rfl, ht3, hp3⟩; have T3 := Lib.hid ht3; have P3 := Lib.hid hp3; clear ht3 hp3)
          | (go_at_call 44; (with_reducible refine (HEM.out _ _ T3.out P3.out).mono ?_); rintro e w4 ⟨rfl, ht4, hp4⟩; have T4 := Lib.hid ht4; have P4 := Lib.hid hp4; obtain ⟨y0, y1, y2, f0, f1, f2⟩ := hp4.cells; clear ht4 hp4)
          | (go_at_call 45; (with_reducible refine (HDE.out _ _ T4.out P4.out).mono ?_); rintro e w5 ⟨rfl, hp5⟩; have P5 := Lib.hid hp5; obtain ⟨y0, y1, y2, f0, f1, f2⟩ := hp5.cells; clear hp5)
          | (go_at_call 46; (with_reducible refine (HOP.out _ (HTAB.out _ P5.out)).mono ?_); rintro e w6 ⟨rfl, hu6⟩; have P6 := Lib.hid (P5.out.quiet hu6); obtain ⟨y0, y1, y2, f0, f1, f2⟩ := P6.out.cells; clear hu6))
        obtain ⟨h1, h2, h3⟩ := P6.out.found _ _ _
        exact bodyPost_ret_by (ret_cell2F rfl _ _ r0 _ _ _ _ _ rfl h1 Tryz.underlying51 rfl fndInfo rfl) rfl ⟨rfl, h2, h3⟩
      | some z =>
        have HOP := Lib.hid (fun W hW => open_yes z ⟨b.toArray⟩ W (openL_some ho) hbs hW)
        have hz : z.length + 4 = c * k := by rw [← hb, openL_some ho, sealed_length]
        clear ho hb
        simp only []
        have HPX := Lib.hid (fun W => Tryz.strings_HasPrefix ⟨z.toArray⟩ ⟨#[0, 0, 0]⟩ W)
        have hpe : Lib.hasPrefix (⟨z.toArray⟩ : ByteArray).data.toList (⟨#[0, 0, 0]⟩ : ByteArray).data.toList = Lib.hasPrefix z [0, 0, 0] := rfl
        rw [hpe] at HPX
        clear hpe
        cases hx : Lib.hasPrefix z [0, 0, 0] with
        | false =>
          rw [hx] at HPX
          rw [if_neg Bool.false_ne_true]
          clear hx
          go_enter Tryz.func21, Tryz.ntmps21
          go_upto_region 1 with fail
          rw [← hwa, ← hr0]
          clear hwa hr0
          go_wp2_with (first
            | (go_at_call 17; (with_reducible refine (HRD'.out _ (Upd.refl _ _)).mono ?_); rintro e w2 ⟨rfl, hp2⟩; have P2 := Lib.hid hp2; clear hp2)
            | (go_at_call 43; (with_reducible refine (HPC.out _ P2.out).mono ?_); rintro e w3 ⟨g, rfl, ht3, hp3⟩; have T3 := Lib.hid ht3; have P3 := Lib.hid hp3; clear ht3 hp3)
            | (go_at_call 44; (with_reducible refine (HEM.out _ _ T3.out P3.out).mono ?_); rintro e w4 ⟨rfl, ht4, hp4⟩; have T4 := Lib.hid ht4; have P4 := Lib.hid hp4; obtain ⟨y0, y1, y2, f0, f1, f2⟩ := hp4.cells; clear ht4 hp4)
            | (go_at_call 45; (with_reducible refine (HDE.out _ _ T4.out P4.out).mono ?_); rintro e w5 ⟨rfl, hp5⟩; have P5 := Lib.hid hp5; obtain ⟨y0, y1, y2, f0, f1, f2⟩ := hp5.cells; clear hp5)
            | (go_at_call 46; (with_reducible refine (HOP.out _ (HTAB.out _ P5.out)).mono ?_); rintro e w6 ⟨rfl, hu6⟩; have P6 := Lib.hid (P5.out.quiet hu6); obtain ⟨y0, y1, y2, f0, f1, f2⟩ := P6.out.cells; clear hu6)
            | (go_at_call 47; (with_reducible refine (HPX.out _).mono ?_); rintro e w7 ⟨rfl, rfl⟩))
          obtain ⟨h1, h2, h3⟩ := P6.out.found _ _ _
          exact bodyPost_ret_by (ret_cell2F rfl _ _ r0 _ _ _ _ _ rfl h1 Tryz.underlying51 rfl fndInfo rfl) rfl ⟨rfl, h2, h3⟩
        | true =>
          rw [hx] at HPX
          rw [if_pos rfl]
          have h3 : 3 ≤ (⟨z.toArray⟩ : ByteArray).size := by
            have h9 : List.isPrefixOf [0, 0, 0] z = true := hx
            have := (List.isPrefixOf_iff_prefix.1 h9).length_le
            show 3 ≤ z.toArray.size
            rw [List.size_toArray]
            exact this
          have HX : Hid ((⟨z.toArray⟩ : ByteArray).extract 3 (⟨z.toArray⟩ : ByteArray).size = ⟨(z.drop 3).toArray⟩) := extr_drop ⟨z.toArray⟩ 3
          clear hx hz
          obtain ⟨zq, hzq⟩ : ∃ zq : ByteArray, ⟨z.toArray⟩ = zq := ⟨_, rfl⟩
          rw [hzq] at HX h3 HPX HOP
          clear hzq
          go_enter Tryz.func21, Tryz.ntmps21
          go_upto_region 1 with fail
          rw [← hwa, ← hr0]
          clear hwa hr0
          go_wp2_with (first
            | (go_at_call 17; (with_reducible refine (HRD'.out _ (Upd.refl _ _)).mono ?_); rintro e w2 ⟨rfl, hp2⟩; have P2 := Lib.hid hp2; clear hp2)
            | (go_at_call 43; (with_reducible refine (HPC.out _ P2.out).mono ?_); rintro e w3 ⟨g, rfl, ht3, hp3⟩; have T3 := Lib.hid ht3; have P3 := Lib.hid hp3; clear ht3 hp3)
            | (go_at_call 44; (with_reducible refine (HEM.out _ _ T3.out P3.out).mono ?_); rintro e w4 ⟨rfl, ht4, hp4⟩; have T4 := Lib.hid ht4; have P4 := Lib.hid hp4; obtain ⟨y0, y1, y2, f0, f1, f2⟩ := hp4.cells; clear ht4 hp4)
            | (go_at_call 45; (with_reducible refine (HDE.out _ _ T4.out P4.out).mono ?_); rintro e w5 ⟨rfl, hp5⟩; have P5 := Lib.hid hp5; obtain ⟨y0, y1, y2, f0, f1, f2⟩ := hp5.cells; clear hp5)
            | (go_at_call 46; (with_reducible refine (HOP.out _ (HTAB.out _ P5.out)).mono ?_); rintro e w6 ⟨rfl, hu6⟩; have P6 := Lib.hid (P5.out.quiet hu6); obtain ⟨y0, y1, y2, f0, f1, f2⟩ := P6.out.cells; clear hu6)
            | (go_at_call 47; (with_reducible refine (HPX.out _).mono ?_); rintro e w7 ⟨rfl, rfl⟩))
          obtain ⟨h1, h2, h3⟩ := P6.out.found _ _ _
          exact bodyPost_ret_by (ret_cell2F rfl _ _ r0 _ _ _ _ _ rfl h1 Tryz.underlying51 rfl fndInfo rfl) rfl ⟨by rw [HX.out]; rfl, h2, h3⟩
end Go.Proofs.YtnppjfaecnikpaaGreatDoor

/- What stands in a written page is found; Write and Read by places; the law's look that pages speak. -/
namespace Go.Proofs.YtnppjfaecnikpaaGreatDoor
open F
open Go.RowKit Pm Cm
set_option linter.unusedVariables false
attribute [local irreducible] openL decUp Lib.onesCount parT sealed

theorem ones255 : Lib.onesCount 255 = 8 := by decide +kernel
theorem zer_000 (l : List UInt8) : 24 ≤ zer ([0, 0, 0] ++ l) := by
  rw [zer_append, zer_cons, zer_cons, zer_cons, zer_nil]
  have h : Lib.onesCount (255 - (0 : UInt8).toNat) = 8 := ones255
  rw [h]
  omega
theorem chunk0 {k n : Nat} (h3 : 3 ≤ k) (l : List UInt8) : ∃ r, chunkL (bodyL n l) k 0 = [0, 0, 0] ++ r := by
  refine ⟨(chunkL (bodyL n l) k 0).drop 3, ?_⟩
  have h : (chunkL (bodyL n l) k 0).take 3 = [0, 0, 0] := by
    unfold chunkL bodyL
    rw [Nat.zero_mul, List.drop_zero, List.take_take, Nat.min_eq_left h3]
    have e : sealed ([0, 0, 0] ++ padL n l) = [0, 0, 0] ++ (padL n l ++ slb (ext 0 ([0, 0, 0] ++ padL n l))) := by unfold sealed; rw [List.append_assoc]
    rw [e]
    rfl
  rw [← h, List.take_append_drop]
theorem sum0 (c : Nat) : ((List.range c).map fun _ => 0).sum = 0 := by
  induction c with
  | zero => rfl
  | succ c ih => rw [List.range_succ, List.map_append, List.sum_append, ih]; rfl
theorem found_page {t k c : Nat} {b p : Int} (hG : GoodG b p c k t) (l : List UInt8) (hl : l.length ≤ c * k - 7) :
    foundL t k c (pieceL (pageL t k c l) (k + (13 * t + 7) / 8)) = ⟨1, padL (c * k - 7) l, 0⟩ := by
  obtain ⟨b1, b2, p1, p2, p4, c1, c2, k1, k2, t1, t2⟩ := hG
  have m1 : 16 ≤ c * k := by have := Nat.mul_le_mul (show 1 ≤ c by omega) (show 16 ≤ k by omega); omega
  have hb : (bodyL (c * k - 7) l).length = c * k := by rw [bodyL_length hl]; omega
  have hpc : ∀ i, i < c → pieceL (pageL t k c l) (k + (13 * t + 7) / 8) i = chunkL (bodyL (c * k - 7) l) k i ++ parT t (chunkL (bodyL (c * k - 7) l) k i) := fun i hi => rawUp_piece hb i c (Nat.le_refl _) hi
  have hf := found_turned (t := t) (k := k) (c := c) (by omega) (by omega) (by omega) (l := l) (by omega) hl (P := pieceL (pageL t k c l) (k + (13 * t + 7) / 8)) (N := fun _ => 0) (fun i hi => by rw [hpc i hi]; exact turned_none (by omega) (by omega) _) (by
    refine empUp_stop (i := 1) ?_ c (by omega)
    show (empUp t _ 0 && decide (zer _ ≤ t)) = false
    obtain ⟨r, hr⟩ := chunk0 (n := c * k - 7) (k := k) (by omega) l
    rw [hpc 0 (by omega), hr, List.append_assoc]
    have := zer_000 (r ++ parT t ([0, 0, 0] ++ r))
    rw [decide_eq_false (by omega), Bool.and_false])
  rw [hf]
  rw [sum0]
theorem pageL_size {t k c : Nat} {b p : Int} (hG : GoodG b p c k t) (l : List UInt8) (hl : l.length ≤ c * k - 7) : (⟨(pageL t k c l).toArray⟩ : ByteArray).size = rawN t k c := by
  obtain ⟨b1, b2, p1, p2, p4, c1, c2, k1, k2, t1, t2⟩ := hG
  have m1 : 16 ≤ c * k := by have := Nat.mul_le_mul (show 1 ≤ c by omega) (show 16 ≤ k by omega); omega
  have h := pageL_length (t := t) (k := k) (c := c) (l := l) (by omega) hl
  show (pageL t k c l).toArray.size = rawN t k c
  rw [List.size_toArray, h]
  rfl
/-- Write at a place that is there -/
theorem write_in (q : Nat) (b p : Int) (c k t : Nat) (ch bb : Nat) (pb : Nat → Nat) (M : Ch) (cc : Nat) (x y : Int) (i j n : Nat) (hx : x = (i : Int)) (hy : y = (j : Int)) (s : ByteArray) (w : World) (hG : GoodG b p c k t) (h : PgrIn w q b p c k t ch bb pb M cc) (hT : Tab w) (hs : s.size ≤ c * k - 7)
    (hF : M.Fit n) (hn : n < 4611686018427387904) (hi : i < M.nb) (hj : j < M.np) (hz : M.sz = rawN t k c) :
    Calls Tryz.prog 18 #[.pointer (some ⟨q, 0, none⟩), .int .i64 x, .int .i64 y, .string s] w fun e w' => e = .returned (.int .i64 (M.progE i j)) ∧ PgrIn w' q b p c k t ch bb pb (M.progM i j (pageL t k c s.data.toList)) cc ∧ Upd (POwn ch bb pb M.nb cc) w w' :=
  write_gen q b p c k t ch bb pb M _ cc x y _ s w hG h hT hs fun W hW =>
    program_at ch bb pb M x y i j n hx hy ⟨(pageL t k c s.data.toList).toArray⟩ (pageL t k c s.data.toList) rfl _ rfl W hW hF hn hi hj (by rw [pageL_size hG _ hs, hz])
/-- Read at a place that is there, the power on, no bits turned -/
theorem pread_in (q : Nat) (b p : Int) (c k t : Nat) (ch bb : Nat) (pb : Nat → Nat) (M : Ch) (cc : Nat) (x y : Int) (i j n : Nat) (hx : x = (i : Int)) (hy : y = (j : Int)) (w : World) (hG : GoodG b p c k t) (h : PgrIn w q b p c k t ch bb pb M cc)
    (hT : ∀ W, Upd (POwn ch bb pb M.nb cc) w W → Tab W) (hF : M.Fit n) (hn : n < 4611686018427387904) (hi : i < M.nb) (hj : j < M.np) (hz : M.sz = rawN t k c) (ho : M.off = false) (hq : M.most < 1 ∨ M.piece < 1) (hst : ((M.bk i).pg j).st ≤ 2) (hd : (((M.bk i).pg j).show M.sz).length = M.sz) :
    Calls Tryz.prog 21 #[.pointer (some ⟨q, 0, none⟩), .int .i64 x, .int .i64 y] w fun e w' => e = .returned (.tuple #[(foundL t k c (pieceL (((M.bk i).pg j).show M.sz) (k + (13 * t + 7) / 8))).val, .int .i64 0]) ∧ PgrIn w' q b p c k t ch bb pb (M.readM i) cc ∧ Upd (POwn ch bb pb M.nb cc) w w' :=
  pread_gen q b p c k t ch bb pb M (M.readM i) cc x y ⟨(((M.bk i).pg j).show M.sz).toArray⟩ w hG h (by show (((M.bk i).pg j).show M.sz).toArray.size = _; rw [List.size_toArray, hd, hz]) hT rfl fun W hW =>
    read_in ch bb pb M x y i j n hx hy _ rfl W hW hF hn hi hj (by have := rawN_pos hG; omega) ho hq hst
end Go.Proofs.YtnppjfaecnikpaaGreatDoor

/- Plain: in how many bits two rows of bytes differ; pieces with few bits turned; words of a code lie far apart. -/
namespace Go.Proofs.YtnppjfaecnikpaaGreatDoor
open F
open Go.RowKit Pm Cm
set_option linter.unusedVariables false
attribute [local irreducible] openL decUp Lib.onesCount parT sealed

end Go.Proofs.YtnppjfaecnikpaaGreatDoor

/- Plain: words of a code lie far apart; pages with noise. -/
namespace Go.Proofs.YtnppjfaecnikpaaGreatDoor
open F
open Go.RowKit Pm Cm
set_option linter.unusedVariables false
attribute [local irreducible] openL decUp Lib.onesCount parT sealed

theorem al_ne (n : Nat) : al n ≠ 0 := al_map_ne (ps := [n]) (al n) (by simp)
theorem piece_getD (raw : List UInt8) (s i j : Nat) (hj : j < s) : (pieceL raw s i).getD j 0 = raw.getD (i * s + j) 0 := by
  unfold pieceL
  rw [List.getD_eq_getElem?_getD, List.getD_eq_getElem?_getD, List.getElem?_take, if_pos hj, List.getElem?_drop]
end Go.Proofs.YtnppjfaecnikpaaGreatDoor

/- Plain: pages with noise, erased pages, spoilt pages. -/
namespace Go.Proofs.YtnppjfaecnikpaaGreatDoor
open F
open Go.RowKit Pm Cm
set_option linter.unusedVariables false
attribute [local irreducible] openL decUp Lib.onesCount parT sealed

theorem ones_xor : ∀ z : Fin 256, Lib.onesCount (255 - z.val) = pop (z.val ^^^ 255) := by decide +kernel
theorem pieceL_length {raw : List UInt8} {s c i : Nat} (hl : raw.length = c * s) (hi : i < c) : (pieceL raw s i).length = s := by
  have h1 : (i + 1) * s ≤ c * s := Nat.mul_le_mul_right s hi
  rw [Nat.succ_mul] at h1
  unfold pieceL
  rw [List.length_take, List.length_drop]; omega
theorem sum_le {N : Nat → Nat} {m : Nat} : ∀ c, (∀ i, i < c → N i ≤ m) → ((List.range c).map N).sum ≤ c * m
  | 0, _ => by simp
  | c + 1, h => by
    rw [List.range_succ, List.map_append, List.sum_append, Nat.succ_mul]
    have h1 := sum_le c (fun i hi => h i (by omega))
    have h2 := h c (by omega)
    show ((List.range c).map N).sum + (N c + 0) ≤ _
    omega
end Go.Proofs.YtnppjfaecnikpaaGreatDoor

/- The law's look that pages speak. -/
namespace Go.Proofs.YtnppjfaecnikpaaGreatDoor
open F
open Go.RowKit Pm Cm
set_option linter.unusedVariables false
attribute [local irreducible] openL decUp Lib.onesCount parT sealed

theorem blank_new (np p : Nat) : blankFrom newBk np p = true := by
  unfold blankFrom
  rw [List.all_eq_true]
  intro k _
  show (decide (k < p) || (0 == 0 && !false)) = true
  simp
/-- what the first Write makes of a new chip -/
def m1C (nb np sz i j : Nat) (l : List UInt8) : Ch := (newCh nb np sz).progM i j l
theorem m1_e (nb np sz i j : Nat) : (newCh nb np sz).progE i j = 0 := by
  unfold Ch.progE
  rw [if_neg (show ¬ (newCh nb np sz).off = true from Bool.false_ne_true), if_neg (show ¬ ((newCh nb np sz).bk i).worn = true from Bool.false_ne_true), if_pos (show blankFrom ((newCh nb np sz).bk i) (newCh nb np sz).np j = true from blank_new np j), if_neg (show ¬ (newCh nb np sz).torn = true from Bool.false_ne_true)]
theorem m1_eq (nb np sz i j : Nat) (l : List UInt8) : m1C nb np sz i j l = (newCh nb np sz).changed.setBk i (newBk.setPg j ⟨1, false, l⟩) := by
  unfold m1C Ch.progM
  rw [if_neg (show ¬ (newCh nb np sz).off = true from Bool.false_ne_true), if_neg (show ¬ ((newCh nb np sz).bk i).worn = true from Bool.false_ne_true), if_pos (show blankFrom ((newCh nb np sz).bk i) (newCh nb np sz).np j = true from blank_new np j), if_neg (show ¬ (newCh nb np sz).torn = true from Bool.false_ne_true)]
  rfl
theorem m1_pg (nb np sz i j : Nat) (l : List UInt8) : ((m1C nb np sz i j l).bk i).pg j = ⟨1, false, l⟩ := by
  rw [m1_eq]
  show (if i = i then newBk.setPg j ⟨1, false, l⟩ else _).pg j = _
  rw [if_pos rfl]
  show (if j = j then _ else _) = _
  rw [if_pos rfl]
theorem m1_fit (nb np sz i j : Nat) (l : List UInt8) : (m1C nb np sz i j l).Fit 1 := (newCh_fit nb np sz).prog i j l
theorem m1_shape (nb np sz i j : Nat) (l : List UInt8) : (m1C nb np sz i j l).nb = nb ∧ (m1C nb np sz i j l).np = np ∧ (m1C nb np sz i j l).sz = sz ∧ (m1C nb np sz i j l).off = false ∧ (m1C nb np sz i j l).most < 1 := by
  rw [m1_eq]
  exact ⟨rfl, rfl, rfl, rfl, by show (0 : Int) < 1; omega⟩
theorem upd_all {w W W' : World} {R : Nat → Prop} (h : Upd noBlock w W) (hu : Upd R W W') (hR : ∀ i, R i → w.heap.size ≤ i) : Upd noBlock w W' :=
  h.step hu fun i hi e => absurd (hR i e) (by omega)
theorem geo6 : GoodG 1 4 1 32 1 := ⟨by decide, by decide, by decide, by decide, by decide, by decide, by decide, by decide, by decide, by decide, by decide⟩
/-- the pager of a new chip -/
structure PN (w : World) (q : Nat) (b p : Int) (c k t : Nat) (ch bb : Nat) (pb : Nat → Nat) (M : Ch) (cc : Nat) (W : World) : Prop where
  i : PgrIn W q b p c k t ch bb pb M cc
  u : Upd noBlock w W
  o : ∀ i, POwn ch bb pb M.nb cc i → w.heap.size ≤ i
theorem PN.upd {w W W' : World} {q : Nat} {b p : Int} {c k t : Nat} {ch bb : Nat} {pb : Nat → Nat} {M M' : Ch} {cc : Nat} (h : PN w q b p c k t ch bb pb M cc W) (hi : PgrIn W' q b p c k t ch bb pb M' cc) (hu : Upd (POwn ch bb pb M.nb cc) W W') (hn : M'.nb = M.nb) : PN w q b p c k t ch bb pb M' cc W' :=
  ⟨hi, upd_all h.u hu h.o, by rw [hn]; exact h.o⟩
theorem PN.quiet {w W W' : World} {q : Nat} {b p : Int} {c k t : Nat} {ch bb : Nat} {pb : Nat → Nat} {M : Ch} {cc : Nat} (h : PN w q b p c k t ch bb pb M cc W) (hu : Upd noBlock W W') : PN w q b p c k t ch bb pb M cc W' := ⟨h.i.keep hu, h.u.trans hu, h.o⟩
theorem PN.tab {w W : World} {q : Nat} {b p : Int} {c k t : Nat} {ch bb : Nat} {pb : Nat → Nat} {M : Ch} {cc : Nat} (h : PN w q b p c k t ch bb pb M cc W) (hT : Tab w) : ∀ W', Upd (POwn ch bb pb M.nb cc) W W' → Tab W' := fun W' hu => hT.upd (upd_all h.u hu h.o)
set_option maxRecDepth 100000 in
set_option maxHeartbeats 3200000 in
theorem speaks6_any (w : World) (hT : Tab w) : Calls Tryz.prog 10 #[] w fun e w' => e = .returned (.bool true) ∧ Upd noBlock w w' := by
  have hrw : rawN 1 32 1 = 34 := by decide
  have HCH : Hid (∀ W, Calls Tryz.prog 14 #[geoV 1 4 1 32 1] W fun e w' => NewC 1 4 34 W w' e) := fun W => by
    have h9 := chip_good 1 4 1 32 1 W geo6
    rw [hrw] at h9
    exact h9
  have HNW : Hid (∀ ch W, Calls Tryz.prog 15 #[.pointer (some ⟨ch, 0, none⟩), geoV 1 4 1 32 1] W fun e w' => ∃ q cc, e = .returned (.tuple #[.pointer (some ⟨q, 0, none⟩), .int .i64 0]) ∧ PgrB w' q 1 4 1 32 1 ch cc ∧ CodeP w' cc 1 32 ∧ W.heap.size ≤ q ∧ W.heap.size ≤ cc ∧ Upd noBlock W w') := fun ch W => pnew_good 1 4 1 32 1 ch W geo6
  have HTW := Lib.hid hT
  have HL : Hid (∀ ch bb pb q cc W, PN w q 1 4 1 32 1 ch bb pb (newCh 1 4 34) cc W → Calls Tryz.prog 18 #[.pointer (some ⟨q, 0, none⟩), .int .i64 0, .int .i64 0, .string ⟨#[97, 98]⟩] W fun e w' => e = .returned (.int .i64 0) ∧ PN w q 1 4 1 32 1 ch bb pb (m1C 1 4 34 0 0 (pageL 1 32 1 [97, 98])) cc w') := fun ch bb pb q cc W hW => by
    have h9 := write_in q 1 4 1 32 1 ch bb pb (newCh 1 4 34) cc 0 0 0 0 0 rfl rfl ⟨#[97, 98]⟩ W geo6 hW.i (HTW.out.upd hW.u) (by decide) (newCh_fit 1 4 34) (by decide) (by decide) (by decide) (by rw [hrw]; rfl)
    rw [m1_e] at h9
    exact h9.mono fun e w' ⟨he, hi, hu⟩ => ⟨he, hW.upd hi hu (m1_shape 1 4 34 0 0 _).1⟩
  have hpl : (pageL 1 32 1 [97, 98]).length = 34 := pageL_length (t := 1) (k := 32) (c := 1) (l := [97, 98]) (by decide) (by decide)
  have HR : Hid (∀ ch bb pb q cc W, PN w q 1 4 1 32 1 ch bb pb (m1C 1 4 34 0 0 (pageL 1 32 1 [97, 98])) cc W → Calls Tryz.prog 21 #[.pointer (some ⟨q, 0, none⟩), .int .i64 0, .int .i64 0] W fun e w' => e = .returned (.tuple #[.agg #[.int .i64 1, .string ⟨(padL 25 [97, 98]).toArray⟩, .int .i64 0], .int .i64 0]) ∧ Upd noBlock w w') := fun ch bb pb q cc W hW => by
    obtain ⟨s1, s2, s3, s4, s5⟩ := m1_shape 1 4 34 0 0 (pageL 1 32 1 [97, 98])
    have hsh : (((m1C 1 4 34 0 0 (pageL 1 32 1 [97, 98])).bk 0).pg 0).show (m1C 1 4 34 0 0 (pageL 1 32 1 [97, 98])).sz = pageL 1 32 1 [97, 98] := by rw [m1_pg]; rfl
    have h9 := pread_in q 1 4 1 32 1 ch bb pb (m1C 1 4 34 0 0 (pageL 1 32 1 [97, 98])) cc 0 0 0 0 1 rfl rfl W geo6 hW.i (hW.tab HTW.out) (m1_fit 1 4 34 0 0 _) (by decide) (by rw [s1]; decide) (by rw [s2]; decide) (by rw [s3, hrw]) s4 (.inl s5) (by rw [m1_pg]; decide) (by rw [hsh, s3, hpl])
    rw [hsh, found_page geo6 [97, 98] (by decide)] at h9
    exact h9.mono fun e w' ⟨he, hi, hu⟩ => ⟨he, upd_all hW.u hu hW.o⟩
  have hx : (⟨(padL 25 [97, 98]).toArray⟩ : ByteArray).size = 25 := by decide
  have HX2 : (⟨(padL 25 [97, 98]).toArray⟩ : ByteArray).extract 0 2 = ⟨#[97, 98]⟩ := by
    rw [extr_take]; rfl
  generalize (⟨(padL 25 [97, 98]).toArray⟩ : ByteArray) = pd at *
  generalize pageL 1 32 1 [97, 98] = pl at *
  clear hpl hT
  unfold geoV NewC at *
  obtain ⟨wa, hwa⟩ : ∃ wa, wa = w.alloc (.cells #[.int .i64 1, .int .i64 4, .int .i64 1, .int .i64 32, .int .i64 1] 25) := ⟨_, rfl⟩
  have hB : wa.heap[w.heap.size]? = some (.cells #[.int .i64 1, .int .i64 4, .int .i64 1, .int .i64 32, .int .i64 1] 25 (0, 0)) := by rw [hwa]; exact heap_alloc_new w _
  have UA : Hid (Upd noBlock w wa) := by rw [hwa]; exact (Upd.refl _ _).alloc _
  have HGC : Hid (∀ W, Upd noBlock wa W → W.cell? ⟨w.heap.size, 0, none⟩ = some (.int .i64 1) ∧ W.cell? ⟨w.heap.size, 1, none⟩ = some (.int .i64 4) ∧ W.cell? ⟨w.heap.size, 2, none⟩ = some (.int .i64 1) ∧ W.cell? ⟨w.heap.size, 3, none⟩ = some (.int .i64 32) ∧ W.cell? ⟨w.heap.size, 4, none⟩ = some (.int .i64 1)) := fun W hW => geo_cells ((hW.block _ (lt_of_block hB) id).trans hB)
  obtain ⟨z0, z1, z2, z3, z4⟩ := geo_cells hB
  clear hB
  have k0 : ∀ (W : World) (x y z : Value), (W.alloc (.cells #[x, y, z] 51)).cell? ⟨W.heap.size, 0, none⟩ = some x := fun W x y z => cell_of (heap_alloc_new W _) 0
  have k1 : ∀ (W : World) (x y z : Value), (W.alloc (.cells #[x, y, z] 51)).cell? ⟨W.heap.size, 1, none⟩ = some y := fun W x y z => cell_of (heap_alloc_new W _) 1
  go_enter Tryz.func10, Tryz.ntmps10
  go_upto_region 2 with fail
  rw [← hwa]
  clear hwa
  go_wp2_with (first
    | (go_at_call 14; (with_reducible refine (HCH.out _).mono ?_); rintro e w2 ⟨ch, bb, pb, rfl, hc, hu, hl⟩; have C2 := Lib.hid hc; have UB : Hid (Upd noBlock wa w2) := hu; have U2 := Lib.hid (UA.out.trans hu); have L2 : Hid (∀ i, Own ch bb pb 1 i → w.heap.size ≤ i) := fun i hi => Nat.le_trans UA.out.size (hl i hi); obtain ⟨z0, z1, z2, z3, z4⟩ := HGC.out _ hu; clear hc hu hl)
    | (go_at_call 15; (with_reducible refine (HNW.out ch _).mono ?_); rintro e w3 ⟨q, cc, rfl, hp, hcd, hq, hcc, hu⟩; have N3 : Hid (PN w q 1 4 1 32 1 ch bb pb (newCh 1 4 34) cc w3) := ⟨⟨hp, C2.out.grow hu, hcd⟩, U2.out.trans hu, fun i hi => hi.elim (fun h => L2.out i h) (fun h => by rw [h]; exact Nat.le_trans U2.out.size hcc)⟩; clear hp hcd hq hcc hu)
    | (go_at_call 18; (with_reducible refine (HL.out _ _ _ _ _ _ N3.out).mono ?_); rintro e w4 ⟨rfl, hp4⟩; have N4 := Lib.hid hp4; clear hp4)
    | (go_at_call 21; (with_reducible refine (HR.out _ _ _ _ _ _ N4.out).mono ?_); rintro e w5 ⟨rfl, hu5⟩; have U5 := Lib.hid hu5; clear hu5))
  go_ret
  exact ⟨rfl, U5.out.alloc _⟩
end Go.Proofs.YtnppjfaecnikpaaGreatDoor

/- PageNil. -/
namespace Go.Proofs.YtnppjfaecnikpaaGreatDoor
open F
open Go.RowKit Pm Cm
set_option linter.unusedVariables false
attribute [local irreducible] openL decUp Lib.onesCount parT sealed

end Go.Proofs.YtnppjfaecnikpaaGreatDoor

/- The law's geometry; PageSizes. -/
namespace Go.Proofs.YtnppjfaecnikpaaGreatDoor
open F
open Go.RowKit Pm Cm
set_option linter.unusedVariables false
attribute [local irreducible] openL decUp Lib.onesCount parT sealed

theorem ret_cells2 {P : Program} {fn : Func} {p u : Tmp} {ty tz : TypeId} (h : fn.results = #[.cell p ty, .cell u tz]) (tmps : Array Value) (w : World) (g g' : Nat) (t t' : TypeId) (cs cs' : Array Value) (fr fr' : Nat × Nat) (d d' : TypeDesc)
    (hp : tmps.getD p undef = .pointer (some ⟨g, 0, none⟩)) (hp' : tmps.getD u undef = .pointer (some ⟨g', 0, none⟩)) (hg : w.heap[g]? = some (.cells cs t fr)) (hg' : w.heap[g']? = some (.cells cs' t' fr'))
    (hu : P.underlying ty = some d) (hd : (match d with | .struct _ | .array _ _ => true | _ => false) = true) (hi : (P.info? ty).map (·.size) = some cs.size)
    (hu' : P.underlying tz = some d') (hd' : (match d' with | .struct _ | .array _ _ => true | _ => false) = true) (hi' : (P.info? tz).map (·.size) = some cs'.size) :
    (results fn tmps).run P w = .ok (.tuple #[.agg cs, .agg cs']) w := by
  have hp1 : tmps[p]?.getD undef = .pointer (some ⟨g, 0, none⟩) := by simpa using hp
  have hp2 : tmps[u]?.getD undef = .pointer (some ⟨g', 0, none⟩) := by simpa using hp'
  simp only [results, h]
  simp [Sem.run_bind, Result.andThen, hp1, hp2, asAddr, run_loadVar_row w g t ty cs fr d hg hu hd hi, run_loadVar_row w g' t' tz cs' fr' d' hg' hu' hd' hi']
theorem geoInfo : (Tryz.prog.info? 25).map (·.size) = some 5 := by kernel_rfl
theorem geoInfoR : (Tryz.prog.info? 26).map (·.size) = some 5 := by kernel_rfl
def set5C (W : World) (g : Nat) (x0 x1 x2 x3 x4 : Value) : World := ((((W.setCell ⟨g, 0, none⟩ x0).setCell ⟨g, 1, none⟩ x1).setCell ⟨g, 2, none⟩ x2).setCell ⟨g, 3, none⟩ x3).setCell ⟨g, 4, none⟩ x4
theorem set5C_at {W : World} {g : Nat} {T : TypeId} {a b c d e x0 x1 x2 x3 x4 : Value} (h : W.heap[g]? = some (.cells #[a, b, c, d, e] T (0, 0))) : (set5C W g x0 x1 x2 x3 x4).heap[g]? = some (.cells #[x0, x1, x2, x3, x4] T (0, 0)) :=
  block_set (block_set (block_set (block_set (block_set h x0) x1) x2) x3) x4
theorem set5C_other {W : World} {g g' : Nat} {T : TypeId} {cs : Array Value} {x0 x1 x2 x3 x4 : Value} (h : W.heap[g]? = some (.cells cs T (0, 0))) (hn : ¬ g = g') : (set5C W g' x0 x1 x2 x3 x4).heap[g]? = some (.cells cs T (0, 0)) :=
  block_set_other (block_set_other (block_set_other (block_set_other (block_set_other h hn x0) hn x1) hn x2) hn x3) hn x4
set_option maxRecDepth 100000 in
set_option maxHeartbeats 3200000 in
theorem geometry6 (b p c k t : Int) (w : World) :
    Calls Tryz.prog 11 #[geoV b p c k t] w fun e w' => e = .returned (.tuple #[geoV b p c k t, geoV b p c k t]) ∧ Upd noBlock w w' := by
  unfold geoV
  go_enter Tryz.func11, Tryz.ntmps11
  go_upto_region 1 with fail
  obtain ⟨wa, hwa⟩ : ∃ wa, wa = ((w.alloc (.cells #[.int .i64 b, .int .i64 p, .int .i64 c, .int .i64 k, .int .i64 t] 22)).alloc (.cells #[.int .i64 0, .int .i64 0, .int .i64 0, .int .i64 0, .int .i64 0] 25)).alloc (.cells #[.int .i64 0, .int .i64 0, .int .i64 0, .int .i64 0, .int .i64 0] 26) := ⟨_, rfl⟩
  have hB0 : wa.heap[w.heap.size]? = some (.cells #[.int .i64 b, .int .i64 p, .int .i64 c, .int .i64 k, .int .i64 t] 22 (0, 0)) := by rw [hwa]; exact block_alloc (block_alloc (heap_alloc_new w _) _) _
  have hB1 : wa.heap[w.heap.size + 1]? = some (.cells #[.int .i64 0, .int .i64 0, .int .i64 0, .int .i64 0, .int .i64 0] 25 (0, 0)) := by
    have h9 := heap_alloc_new (w.alloc (.cells #[.int .i64 b, .int .i64 p, .int .i64 c, .int .i64 k, .int .i64 t] 22)) (.cells #[.int .i64 0, .int .i64 0, .int .i64 0, .int .i64 0, .int .i64 0] 25)
    rw [World.size_alloc] at h9
    rw [hwa]; exact block_alloc h9 _
  have hB2 : wa.heap[w.heap.size + 1 + 1]? = some (.cells #[.int .i64 0, .int .i64 0, .int .i64 0, .int .i64 0, .int .i64 0] 26 (0, 0)) := by
    have h9 := heap_alloc_new ((w.alloc (.cells #[.int .i64 b, .int .i64 p, .int .i64 c, .int .i64 k, .int .i64 t] 22)).alloc (.cells #[.int .i64 0, .int .i64 0, .int .i64 0, .int .i64 0, .int .i64 0] 25)) (.cells #[.int .i64 0, .int .i64 0, .int .i64 0, .int .i64 0, .int .i64 0] 26)
    rw [World.size_alloc, World.size_alloc] at h9
    rw [hwa]; exact h9
  have UA : Hid (Upd noBlock w wa) := by rw [hwa]; exact (((Upd.refl _ _).alloc _).alloc _).alloc _
  have n01 : ¬ w.heap.size = w.heap.size + 1 := by omega
  have n02 : ¬ w.heap.size = w.heap.size + 1 + 1 := by omega
  have n12 : ¬ w.heap.size + 1 = w.heap.size + 1 + 1 := by omega
  have HS1 : Hid (∀ W j v, Upd noBlock w W → Upd noBlock w (W.setCell ⟨w.heap.size + 1, j, none⟩ v)) := fun W j v h => h.setCell (p := ⟨w.heap.size + 1, j, none⟩) (.inr (Nat.le_succ _)) v
  have HS2 : Hid (∀ W j v, Upd noBlock w W → Upd noBlock w (W.setCell ⟨w.heap.size + 1 + 1, j, none⟩ v)) := fun W j v h => h.setCell (p := ⟨w.heap.size + 1 + 1, j, none⟩) (.inr (Nat.le_trans (Nat.le_succ _) (Nat.le_succ _))) v
  rw [← hwa]
  clear hwa
  generalize w.heap.size + 1 + 1 = g2 at *
  generalize w.heap.size + 1 = g1 at *
  generalize w.heap.size = g0 at *
  have H1 := Lib.hid hB1
  have H2 := Lib.hid hB2
  have hK : ∀ W : World, Hid (W.heap[g0]? = some (.cells #[.int .i64 b, .int .i64 p, .int .i64 c, .int .i64 k, .int .i64 t] 22 (0, 0))) → W.cell? ⟨g0, 0, none⟩ = some (.int .i64 b) ∧ W.cell? ⟨g0, 1, none⟩ = some (.int .i64 p) ∧ W.cell? ⟨g0, 2, none⟩ = some (.int .i64 c) ∧ W.cell? ⟨g0, 3, none⟩ = some (.int .i64 k) ∧ W.cell? ⟨g0, 4, none⟩ = some (.int .i64 t) ∧ Hid (W.heap[g0]? = some (.cells #[.int .i64 b, .int .i64 p, .int .i64 c, .int .i64 k, .int .i64 t] 22 (0, 0))) := fun W hW => by
    obtain ⟨a0, a1, a2, a3, a4⟩ := geo_cells hW.out
    exact ⟨a0, a1, a2, a3, a4, hW⟩
  have HK := Lib.hid hK
  have K0 : Hid (wa.heap[g0]? = some (.cells #[.int .i64 b, .int .i64 p, .int .i64 c, .int .i64 k, .int .i64 t] 22 (0, 0))) := hB0
  have K1 : Hid (∀ (W : World) j v, Hid (W.heap[g0]? = some (.cells #[.int .i64 b, .int .i64 p, .int .i64 c, .int .i64 k, .int .i64 t] 22 (0, 0))) → Hid ((W.setCell ⟨g1, j, none⟩ v).heap[g0]? = some (.cells #[.int .i64 b, .int .i64 p, .int .i64 c, .int .i64 k, .int .i64 t] 22 (0, 0)))) := fun W j v h => block_set_other h.out n01 v
  have K2 : Hid (∀ (W : World) j v, Hid (W.heap[g0]? = some (.cells #[.int .i64 b, .int .i64 p, .int .i64 c, .int .i64 k, .int .i64 t] 22 (0, 0))) → Hid ((W.setCell ⟨g2, j, none⟩ v).heap[g0]? = some (.cells #[.int .i64 b, .int .i64 p, .int .i64 c, .int .i64 k, .int .i64 t] 22 (0, 0)))) := fun W j v h => block_set_other h.out n02 v
  have K0D : Hid (wa.drew.heap[g0]? = some (.cells #[.int .i64 b, .int .i64 p, .int .i64 c, .int .i64 k, .int .i64 t] 22 (0, 0))) := hB0
  have KD : Hid (∀ W : World, Hid (W.heap[g0]? = some (.cells #[.int .i64 b, .int .i64 p, .int .i64 c, .int .i64 k, .int .i64 t] 22 (0, 0))) → Hid (W.drew.heap[g0]? = some (.cells #[.int .i64 b, .int .i64 p, .int .i64 c, .int .i64 k, .int .i64 t] 22 (0, 0)))) := fun W h => h
  clear hK
  obtain ⟨x0, x1, x2, x3, x4⟩ := geo_cells hB1
  obtain ⟨y0, y1, y2, y3, y4⟩ := geo_cells hB2
  have f0 := free_of hB1 0
  have f1 := free_of hB1 1
  have f2 := free_of hB1 2
  have f3 := free_of hB1 3
  have f4 := free_of hB1 4
  have e0 := free_of hB2 0
  have e1 := free_of hB2 1
  have e2 := free_of hB2 2
  have e3 := free_of hB2 3
  have e4 := free_of hB2 4
  clear hB0 hB1 hB2
  have n12' : ¬ g2 = g1 := fun e => n12 e.symm
  go_region_held (fun W : World => W.cell? ⟨g0, 0, none⟩ = some (.int .i64 b) ∧ W.cell? ⟨g0, 1, none⟩ = some (.int .i64 p) ∧ W.cell? ⟨g0, 2, none⟩ = some (.int .i64 c) ∧ W.cell? ⟨g0, 3, none⟩ = some (.int .i64 k) ∧ W.cell? ⟨g0, 4, none⟩ = some (.int .i64 t) ∧ Hid (W.heap[g0]? = some (.cells #[.int .i64 b, .int .i64 p, .int .i64 c, .int .i64 k, .int .i64 t] 22 (0, 0))))
    (first | with_reducible exact HK.out _ K0 | with_reducible exact HK.out _ K0D | with_reducible exact HK.out _ (K1.out _ _ _ (K1.out _ _ _ (K1.out _ _ _ (K1.out _ _ _ (K1.out _ _ _ K0))))) | with_reducible exact HK.out _ (KD.out _ (K1.out _ _ _ (K1.out _ _ _ (K1.out _ _ _ (K1.out _ _ _ (K1.out _ _ _ K0)))))) | with_reducible exact HK.out _ (K2.out _ _ _ (K2.out _ _ _ (K2.out _ _ _ (K2.out _ _ _ (K2.out _ _ _ K0))))) | with_reducible exact HK.out _ (KD.out _ (K2.out _ _ _ (K2.out _ _ _ (K2.out _ _ _ (K2.out _ _ _ (K2.out _ _ _ K0)))))) | with_reducible exact HK.out _ (K2.out _ _ _ (K2.out _ _ _ (K2.out _ _ _ (K2.out _ _ _ (K2.out _ _ _ (K1.out _ _ _ (K1.out _ _ _ (K1.out _ _ _ (K1.out _ _ _ (K1.out _ _ _ K0)))))))))) | with_reducible exact HK.out _ (KD.out _ (K2.out _ _ _ (K2.out _ _ _ (K2.out _ _ _ (K2.out _ _ _ (K2.out _ _ _ (K1.out _ _ _ (K1.out _ _ _ (K1.out _ _ _ (K1.out _ _ _ (K1.out _ _ _ K0))))))))))) | with_reducible exact HK.out _ (K1.out _ _ _ (K1.out _ _ _ (K1.out _ _ _ (K1.out _ _ _ (K1.out _ _ _ (K2.out _ _ _ (K2.out _ _ _ (K2.out _ _ _ (K2.out _ _ _ (K2.out _ _ _ K0)))))))))) | with_reducible exact HK.out _ (KD.out _ (K1.out _ _ _ (K1.out _ _ _ (K1.out _ _ _ (K1.out _ _ _ (K1.out _ _ _ (K2.out _ _ _ (K2.out _ _ _ (K2.out _ _ _ (K2.out _ _ _ (K2.out _ _ _ K0))))))))))))
    (fail)
  obtain ⟨wy, hwy⟩ : ∃ wy, wy = set5C (set5C wa g1 (.int .i64 b) (.int .i64 p) (.int .i64 c) (.int .i64 k) (.int .i64 t)) g2 (.int .i64 b) (.int .i64 p) (.int .i64 c) (.int .i64 k) (.int .i64 t) := ⟨_, rfl⟩
  have HF1 : Hid (wy.heap[g1]? = some (.cells #[.int .i64 b, .int .i64 p, .int .i64 c, .int .i64 k, .int .i64 t] 25 (0, 0))) := by rw [hwy]; exact set5C_other (set5C_at H1.out) n12
  have HF2 : Hid (wy.heap[g2]? = some (.cells #[.int .i64 b, .int .i64 p, .int .i64 c, .int .i64 k, .int .i64 t] 26 (0, 0))) := by rw [hwy]; exact set5C_at (set5C_other H2.out n12')
  have HUF : Hid (Upd noBlock w wy) := by rw [hwy]; exact HS2.out _ _ _ (HS2.out _ _ _ (HS2.out _ _ _ (HS2.out _ _ _ (HS2.out _ _ _ (HS1.out _ _ _ (HS1.out _ _ _ (HS1.out _ _ _ (HS1.out _ _ _ (HS1.out _ _ _ UA.out)))))))))
  unfold set5C at hwy
  rw [← hwy]
  clear hwy H1 H2 HK K0 K1 K2 K0D KD HS1 HS2 x0 x1 x2 x3 x4 y0 y1 y2 y3 y4 f0 f1 f2 f3 f4 e0 e1 e2 e3 e4
  go_wp2_with fail
  have HF1' : wy.drew.heap[g1]? = some (.cells #[.int .i64 b, .int .i64 p, .int .i64 c, .int .i64 k, .int .i64 t] 25 (0, 0)) := HF1.out
  have HF2' : wy.drew.heap[g2]? = some (.cells #[.int .i64 b, .int .i64 p, .int .i64 c, .int .i64 k, .int .i64 t] 26 (0, 0)) := HF2.out
  have HUF' := HUF.out.drew
  generalize wy.drew = wz at *
  refine bodyPost_ret_by (ret_cells2 rfl _ _ g1 g2 _ _ _ _ _ _ _ _ rfl rfl HF1' HF2' Tryz.underlying25 rfl geoInfo Tryz.underlying26 rfl geoInfoR) rfl ⟨rfl, HUF'⟩
end Go.Proofs.YtnppjfaecnikpaaGreatDoor

/- The document's Page. -/
namespace Go.Proofs.YtnppjfaecnikpaaGreatDoor
open F
open Go.RowKit Pm Cm
set_option linter.unusedVariables false
attribute [local irreducible] openL decUp Lib.onesCount parT sealed rawUp bodyL

theorem bs_three (w : World) : w.alloc (.cells #[.int .u8 0, .int .u8 0, .int .u8 0] 5) |>.ownsRow w.heap.size 5 1 (.slice (some ⟨w.heap.size, 0, none⟩) 3 3) 3 [.int .u8 0, .int .u8 0, .int .u8 0] :=
  ⟨rfl, .inr ⟨w.heap.size, 3, _, rfl, Nat.le_refl _, heap_alloc_new w _, Nat.le_refl _, by unfold maxLen; omega, rfl, rfl⟩⟩
def lenOf : Value → Nat
  | .slice _ n _ => n
  | _ => 0
theorem cells_bytes (l : List UInt8) (s : ByteArray) (xs : List Value) (h : xs = (l.map fun c => (c.toNat : Int)).map (Value.int .u8)) : xs ++ Lib.strCells s = ((l ++ s.data.toList).map fun c => (c.toNat : Int)).map (Value.int .u8) := by
  rw [h, List.map_append, List.map_append]
  congr 1
  simp [Lib.strCells]
set_option maxRecDepth 100000 in
set_option maxHeartbeats 6400000 in
theorem refPage_any (b p : Int) (c k t : Nat) (s : ByteArray) (w : World) (h : GoodG b p c k t) (hs : s.size ≤ c * k - 7) :
    Calls Tryz.prog 19 #[geoV b p (c : Int) (k : Int) (t : Int), .string s] w fun e w' => e = .returned (.string ⟨(pageL t k c s.data.toList).toArray⟩) ∧ Upd noBlock w w' := by
  obtain ⟨b1, b2, p1, p2, p4, c1, c2, k1, k2, t1, t2⟩ := h
  clear b1 b2 p1 p2 p4
  have m1 : 16 ≤ c * k := by have := Nat.mul_le_mul (show 1 ≤ c by omega) (show 16 ≤ k by omega); omega
  have m2 : c * k ≤ 1024 := Nat.mul_le_mul (show c ≤ 4 by omega) (show k ≤ 256 by omega)
  have hbl : (bodyL (c * k - 7) s.data.toList).length = c * k := by rw [bodyL_length hs]; omega
  have HLEN := Lib.hid (fun i (hi : i ≤ c) => rawUp_length (t := t) (b := bodyL (c * k - 7) s.data.toList) (k := k) hbl i hi)
  have HCL := Lib.hid (fun i (hi : i < c) => chunkL_length (b := bodyL (c * k - 7) s.data.toList) hbl hi)
  have HUP : Hid (∀ i, rawUp t k (bodyL (c * k - 7) s.data.toList) (i + 1) = rawUp t k (bodyL (c * k - 7) s.data.toList) i ++ (chunkL (bodyL (c * k - 7) s.data.toList) k i ++ parT t (chunkL (bodyL (c * k - 7) s.data.toList) k i))) := fun i => by show _ = _; rw [rawUp]
  have HU0 : Hid (rawUp t k (bodyL (c * k - 7) s.data.toList) 0 = []) := by show _ = _; rw [rawUp]
  have HPG : Hid (pageL t k c s.data.toList = rawUp t k (bodyL (c * k - 7) s.data.toList) c) := rfl
  have HENC := Lib.hid (fun (x : ByteArray) W (hx : x.size ≤ 256) => refEncode_any t x W (by omega) (by omega) (by omega))
  have HBD : Hid (bodyL (c * k - 7) s.data.toList = sealed ([0, 0, 0] ++ padL (c * k - 7) s.data.toList)) := by show _ = _; rw [bodyL]
  have HPD : Hid (padL (c * k - 7) s.data.toList = s.data.toList ++ List.replicate (c * k - 7 - s.size) 0) := rfl
  have HEX : Hid (∀ (q : ByteArray) i, (q.extract (i * k) ((i + 1) * k)).data.toList = chunkL q.data.toList k i) := fun q i => extr_mid q k i
  have e1 : (c : Int) * (k : Int) = ((c * k : Nat) : Int) := by push_cast; rfl
  obtain ⟨n, hn⟩ : ∃ n, c * k = n := ⟨_, rfl⟩
  rw [hn] at e1 m1 m2 hs
  have w1 : IntKind.i64.wrap ((c : Int) * (k : Int)) = (n : Int) := by rw [e1, IntKind.wrap_i64]; omega
  have w2 : IntKind.i64.wrap ((n : Int) - 4) = ((n - 4 : Nat) : Int) := by rw [IntKind.wrap_i64]; omega
  simp only [hn] at HLEN HCL HUP HU0 HPG HBD HPD hbl
  obtain ⟨bd, hbd⟩ : ∃ bd, bodyL (n - 7) s.data.toList = bd := ⟨_, rfl⟩
  rw [hbd] at HLEN HCL HUP HU0 HPG HBD hbl
  clear hbd e1
  obtain ⟨i0, hi0, hz0, hz1, hz2⟩ := byteParts
  unfold geoV
  obtain ⟨wa, hwa⟩ : ∃ wa, wa = w.alloc (.cells #[.int .i64 b, .int .i64 p, .int .i64 (c : Int), .int .i64 (k : Int), .int .i64 (t : Int)] 26) := ⟨_, rfl⟩
  have hA : wa.heap[w.heap.size]? = some (.cells #[.int .i64 b, .int .i64 p, .int .i64 (c : Int), .int .i64 (k : Int), .int .i64 (t : Int)] 26 (0, 0)) := by rw [hwa]; exact heap_alloc_new w _
  have UA : Hid (Upd noBlock w wa) := by rw [hwa]; exact (Upd.refl _ _).alloc _
  have HGC : Hid (∀ W, Upd noBlock wa W → W.cell? ⟨w.heap.size, 0, none⟩ = some (.int .i64 b) ∧ W.cell? ⟨w.heap.size, 1, none⟩ = some (.int .i64 p) ∧ W.cell? ⟨w.heap.size, 2, none⟩ = some (.int .i64 (c : Int)) ∧ W.cell? ⟨w.heap.size, 3, none⟩ = some (.int .i64 (k : Int)) ∧ W.cell? ⟨w.heap.size, 4, none⟩ = some (.int .i64 (t : Int))) := fun W hW => geo_cells ((hW.block _ (lt_of_block hA) id).trans hA)
  clear hA
  obtain ⟨g, hg⟩ : ∃ g, g = w.heap.size := ⟨_, rfl⟩
  rw [← hg] at HGC
  go_enter Tryz.func19, Tryz.ntmps19
  go_upto_region 1 with fail
  rw [← hwa, ← hg]
  clear hwa hg
  go_upto_region 2 with fail
  have O1 := Lib.hid (bs_three wa)
  have V1 : Hid (Upd noBlock wa (wa.alloc (.cells #[.int .u8 0, .int .u8 0, .int .u8 0] 5))) := (Upd.refl _ _).alloc _
  obtain ⟨B, hB⟩ : ∃ B, B = wa.heap.size := ⟨_, rfl⟩
  have HBw := Lib.hid hB
  rw [← hB] at O1 ⊢
  generalize wa.alloc (.cells #[.int .u8 0, .int .u8 0, .int .u8 0] 5) = w1 at *
  have hB1 : B ≤ w1.heap.size := by rw [hB]; exact V1.out.size
  clear hB
  have HS0 : Hid (s.data.toList.length = s.size) := rfl
  go_upto_region 3 with (at_builtin; refine Lib.wpList_append_own_string _ rfl (.tmp 11) (.tmp 12) 49 9 rfl B 5 i0 Tryz.underlying49 Tryz.underlying9 hi0 hz0 hz1 hz2 _ 3 _ rfl O1.out s rfl (by unfold maxLen; omega) (by omega) hB1 ?_; intro v2 w2 ho hgr hnn; have B2 : Hid (Bs w2 B 5 v2 ([0, 0, 0] ++ s.data.toList)) := (Bs.of_own (l := [0, 0, 0] ++ s.data.toList) (by rw [← cells_bytes [0, 0, 0] s [.int .u8 0, .int .u8 0, .int .u8 0] rfl, List.length_append, HS0.out]; exact ho) (fun e => by have h9 : Value.slice (some ⟨B, 0, none⟩) 3 3 = .slice none 0 0 := (hnn.1 e).1; cases h9)); have V2 : Hid (Upd noBlock wa w2) := upd_of_grown V1.out hgr (fun k hk => .inr (by have h8 : B = k := Option.some.inj (show some B = some k from hk); have := HBw.out; omega)); clear ho hgr hnn)
  clear O1 V1 hB1 w1
  go_loopw [5] (fun v wr => ∃ j : Nat, j ≤ n - 7 - s.size ∧ Hid (Bs wr B 5 v ([0, 0, 0] ++ s.data.toList ++ List.replicate j 0)) ∧ Hid (Upd noBlock wa wr)) (fun v _ => n - lenOf v)
  case atStart => exact ⟨0, Nat.zero_le _, by rw [List.replicate_zero, List.append_nil]; exact B2, V2⟩
  case round =>
    clear B2 V2
    obtain ⟨j, hj, HB, HU⟩ := hrel
    obtain ⟨z0, z1, z2, z3, z4⟩ := HGC.out wr HU.out
    have hln : ([0, 0, 0] ++ s.data.toList ++ List.replicate j (0 : UInt8)).length = 3 + s.size + j := by rw [List.length_append, List.length_append, List.length_replicate, HS0.out]; rfl
    have HSN : Hid ([0, 0, 0] ++ s.data.toList ++ List.replicate (j + 1) (0 : UInt8) = ([0, 0, 0] ++ s.data.toList ++ List.replicate j 0) ++ [0]) := by show _ = _; rw [List.replicate_succ', ← List.append_assoc]
    by_cases h0 : j < n - 7 - s.size
    · obtain ⟨l, hl⟩ : ∃ l, [0, 0, 0] ++ s.data.toList ++ List.replicate j (0 : UInt8) = l := ⟨_, rfl⟩
      rw [hl] at HB HSN hln
      obtain ⟨gv, cv, rfl, hgv, _⟩ := HB.out.cell
      have d1 : decide (l.length < n - 4) = true := decide_eq_true (by omega)
      have d2 : decide ((l.length : Int) < ((n - 4 : Nat) : Int)) = true := decide_eq_true (by omega)
      have HX : Hid ((wr.alloc (.cells #[.int .u8 0] 5)).cell? ⟨wr.heap.size, 0, none⟩ = some (.int .u8 ((0 : UInt8).toNat : Int))) := by show _ = _; rw [cell_of (heap_alloc_new wr _)]; rfl
      have HB2 := Lib.hid (HB.out.grow ((Upd.refl noBlock wr).alloc (.cells #[.int .u8 0] 5)))
      have HU2 := Lib.hid (HU.out.alloc (.cells #[.int .u8 0] 5))
      have hsz : B ≤ wr.heap.size := by rw [HBw.out]; exact HU.out.size
      have HLN : Hid (l.length + 1 ≤ 140737488355328) := by show l.length + 1 ≤ _; omega
      have HLL := Lib.hid hln
      clear HB HU hl hln
      go_wp2_with (at_builtin; refine wpList_append_byte rfl (.tmp 23) (.tmp 24) _ rfl B 5 _ _ rfl HB2.out i0 Tryz.underlying49 hi0 hz0 hz1 hz2 wr.heap.size 0 rfl HX.out HLN.out (by simp; omega) ?_; intro v' w' hb' hu'; have HB3 := Lib.hid hb'; have HU3 := Lib.hid (hu' wa (Nat.le_of_eq HBw.out.symm) HU2.out); clear hb' hu')
      go_roundw
      case rel => exact ⟨j + 1, by omega, by rw [HSN.out]; exact HB3, HU3⟩
      case measure =>
        obtain ⟨gv', cv', rfl, _, _⟩ := HB3.out.cell
        show n - (l ++ [0]).length < n - l.length
        rw [List.length_append, HLL.out]
        simp
        omega
    · obtain rfl : j = n - 7 - s.size := by omega
      obtain ⟨l, hl⟩ : ∃ l, [0, 0, 0] ++ s.data.toList ++ List.replicate (n - 7 - s.size) (0 : UInt8) = l := ⟨_, rfl⟩
      have HBL : Hid (bd = sealed l) := by show _ = _; rw [HBD.out, HPD.out, ← hl, List.append_assoc]
      rw [hl] at HB hln
      obtain ⟨gv, cv, rfl, hgv, _⟩ := HB.out.cell
      have d1 : decide (l.length < n - 4) = false := decide_eq_false (by omega)
      have d2 : decide ((l.length : Int) < ((n - 4 : Nat) : Int)) = false := decide_eq_false (by omega)
      have hcv := HB.out.text (P := Tryz.prog) 49 9 Tryz.underlying49 Tryz.underlying5 Tryz.underlying9
      have HSEAL : Hid (∀ W, Calls Tryz.prog 41 #[.string ⟨l.toArray⟩] W fun e w' => e = .returned (.string ⟨bd.toArray⟩) ∧ Upd noBlock W w') := fun W => by
        have h9 := refSeal_any ⟨l.toArray⟩ W (by show l.toArray.size ≤ _; rw [List.size_toArray]; omega)
        rw [show (⟨l.toArray⟩ : ByteArray).data.toList = l from rfl, ← HBL.out] at h9
        exact h9
      clear hl hln HSN HB HBL HBD HPD hj
      go_upto_region 8 with (go_at_call 41; (with_reducible refine (HSEAL.out _).mono ?_); rintro e w3 ⟨rfl, hu3⟩; have U3 := Lib.hid (HU.out.trans hu3); clear hu3)
      clear hcv HSEAL HU d1 d2 z0 z1 z2 z3 z4
      obtain ⟨R, hR⟩ : ∃ R, rawUp t k bd = R := ⟨_, rfl⟩
      rw [hR] at HLEN HUP HU0 HPG
      obtain ⟨q, hq⟩ : ∃ q : ByteArray, ⟨bd.toArray⟩ = q := ⟨_, rfl⟩
      have HQ : Hid (q.data.toList = bd) := by rw [← hq]; rfl
      have hqs : q.size = n := by rw [← hq]; show bd.toArray.size = n; rw [List.size_toArray, hbl]
      rw [hq]
      have HEXQ := Lib.hid (fun i => HEX.out q i)
      rw [HQ.out] at HEXQ
      clear hR hq hbl HEX
      go_loopw [7, 8] (fun o i wr => ∃ j : Nat, j ≤ c ∧ i = .int .i64 (j : Int) ∧ o = .string ⟨(R j).toArray⟩ ∧ Hid (Upd noBlock wa wr)) (fun _ i _ => c - (intOf i).toNat)
      case atStart => exact ⟨0, Nat.zero_le _, rfl, by rw [HU0.out], U3⟩
      case round =>
        clear U3
        obtain ⟨j, hj, rfl, rfl, HU⟩ := hrel
        obtain ⟨z0, z1, z2, z3, z4⟩ := HGC.out wr HU.out
        by_cases h0 : j < c
        · have hln := HLEN.out j hj
          have hq2 : (13 * t + 7) / 8 ≤ 13 := by omega
          have hl : (R j).length ≤ 1100 := by rw [hln]; exact Nat.le_trans (Nat.mul_le_mul (show j ≤ 4 by omega) (show k + (13 * t + 7) / 8 ≤ 275 by omega)) (by decide)
          have HUP1 := HUP.out j
          have a1 : j * k ≤ n := by rw [← hn]; exact Nat.mul_le_mul_right k (show j ≤ c by omega)
          have a3 : (j + 1) * k ≤ n := by rw [← hn]; exact Nat.mul_le_mul_right k (by omega)
          have a4 : j * k ≤ (j + 1) * k := Nat.mul_le_mul_right k (by omega)
          have hcl := HCL.out j h0
          have HEX1 := HEXQ.out j
          have e3 : ((j : Int)) * (k : Int) = ((j * k : Nat) : Int) := by push_cast; rfl
          have e4 : ((j : Int) + 1) * (k : Int) = (((j + 1) * k : Nat) : Int) := by push_cast; rfl
          obtain ⟨u, hu⟩ : ∃ u, j * k = u := ⟨_, rfl⟩
          obtain ⟨v, hv⟩ : ∃ v, (j + 1) * k = v := ⟨_, rfl⟩
          rw [hu] at e3 a1
          rw [hv] at e4 a3
          rw [hu, hv] at HEX1 a4
          have w3' : IntKind.i64.wrap ((j : Int) * (k : Int)) = (u : Int) := by rw [e3, IntKind.wrap_i64]; omega
          have w4' : IntKind.i64.wrap (((j : Int) + 1) * (k : Int)) = (v : Int) := by rw [e4, IntKind.wrap_i64]; omega
          have b1 : u ≤ q.size := by omega
          have b2 : v ≤ q.size := by omega
          obtain ⟨x, hx⟩ : ∃ x, q.extract u v = x := ⟨_, rfl⟩
          have hxs : x.size = k := by
            have h1 : x.data.toList.length = x.size := rfl
            rw [← h1, ← hx, HEX1, hcl]
          rw [hx] at HEX1
          rw [← HEX1] at HUP1 hcl
          have hps := parT_length t x.data.toList
          have HEN := Lib.hid (fun W => HENC.out x W (by omega))
          obtain ⟨y, hy⟩ : ∃ y : ByteArray, ⟨(parT t x.data.toList).toArray⟩ = y := ⟨_, rfl⟩
          obtain ⟨o, ho⟩ : ∃ o : ByteArray, ⟨(R j).toArray⟩ = o := ⟨_, rfl⟩
          have hys : y.size ≤ 13 := by rw [← hy]; show (parT t x.data.toList).toArray.size ≤ 13; rw [List.size_toArray, hps]; exact hq2
          have hos : o.size ≤ 1100 := by rw [← ho]; show (R j).toArray.size ≤ 1100; rw [List.size_toArray]; exact hl
          have HO : Hid (o ++ (x ++ y) = ⟨(R (j + 1)).toArray⟩) := by
            show _ = _
            rw [← hy, ← ho, HUP1]
            apply ByteArray.ext
            apply Array.ext'
            simp [ByteArray.data_append]
          have s1 : x.size + y.size ≤ 9223372036854775807 := by omega
          have s2 : o.size + (x ++ y).size ≤ 9223372036854775807 := by rw [ByteArray.size_append]; omega
          rw [hy] at HEN
          rw [ho]
          clear e3 e4 hu hv hln hl HUP1 HEX1 hcl hps hy ho
          go_wp2_with (go_at_call 42; (with_reducible refine (HEN.out _).mono ?_); rintro e w6 ⟨rfl, hu6⟩; have U6 := Lib.hid (HU.out.trans hu6); clear hu6)
          go_roundw
          case rel => exact ⟨j + 1, by omega, by go_num, by rw [← HO.out], U6⟩
          case measure => simp [intOf]; omega
        · obtain rfl : j = c := by omega
          go_wp2_with fail
          go_ret
          exact ⟨by rw [HPG.out]; rfl, UA.out.trans HU.out⟩
end Go.Proofs.YtnppjfaecnikpaaGreatDoor

/- Plain: what is found in any raw bytes. -/
namespace Go.Proofs.YtnppjfaecnikpaaGreatDoor
open F
open Go.RowKit Pm Cm
set_option linter.unusedVariables false
attribute [local irreducible] openL decUp Lib.onesCount parT sealed

theorem decP_code {t k n : Nat} (h1 : 1 ≤ t) (h8 : t ≤ 8) {s d : List UInt8} (hs : s.length = k + (13 * t + 7) / 8) (h : decP t k s = some (d, n)) :
    n ≤ t ∧ d.length = k ∧ dist (8 * k + 13 * t) (dbit s) (dbit (d ++ parT t d)) = n := by
  have hl := decP_len (by omega) h
  unfold decP at h
  cases hd : decA t k ⟨(s.take k).toArray⟩ ⟨(s.drop k).toArray⟩ with
  | none => rw [hd] at h; cases h
  | some ps =>
    rw [hd] at h
    simp only [Option.some.injEq, Prod.mk.injEq] at h
    have hg := decA_some hd
    have hx : (⟨(s.take k).toArray⟩ : ByteArray).size = k := by simp [ByteArray.size]; omega
    have hy : (⟨(s.drop k).toArray⟩ : ByteArray).size = (13 * t + 7) / 8 := by simp [ByteArray.size]; omega
    have h2 := dist_turns h1 h8 hx hy hg
    have h3 := good_code t k h1 h8 _ _ hx hy ps hg
    have e1 : (⟨(s.take k).toArray⟩ : ByteArray).data.toList ++ (⟨(s.drop k).toArray⟩ : ByteArray).data.toList = s := List.take_append_drop k s
    rw [e1] at h2
    have e2 : d ++ parT t d = turns (8 * k + 13 * t) (wordOf t ⟨(s.take k).toArray⟩ ⟨(s.drop k).toArray⟩) ps := by rw [← h.1, h3, List.take_append_drop]
    rw [e2, ← h.2]
    exact ⟨hg.2.2.1, hl, h2⟩
theorem chunkL_left {b d : List UInt8} {k c i : Nat} (hb : b.length = c * k) (hi : i < c) : chunkL (b ++ d) k i = chunkL b k i := by
  have h1 : (i + 1) * k ≤ c * k := Nat.mul_le_mul_right k hi
  rw [Nat.succ_mul] at h1
  unfold chunkL
  rw [List.drop_append_of_le_length (by omega), List.take_append_of_le_length (by rw [List.length_drop]; omega)]
theorem chunkL_last {b d : List UInt8} {k c : Nat} (hb : b.length = c * k) (hd : d.length = k) : chunkL (b ++ d) k c = d := by
  unfold chunkL
  rw [← hb, List.drop_left, List.take_of_length_le (by omega)]
theorem sum_congr {N N' : Nat → Nat} : ∀ c, (∀ i, i < c → N i = N' i) → ((List.range c).map N).sum = ((List.range c).map N').sum := fun c h => by
  congr 1
  exact List.map_congr_left fun i hi => h i (List.mem_range.1 hi)
theorem decUp_all {t k : Nat} {P : Nat → List UInt8} : ∀ (c : Nat) (b : List UInt8) (n : Nat), (∀ i, i < c → k ≤ (P i).length) → decUp t k P c = some (b, n) → ∃ N : Nat → Nat, (∀ i, i < c → decP t k (P i) = some (chunkL b k i, N i)) ∧ n = ((List.range c).map N).sum
  | 0, b, n, _, h => by
    rw [decUp_zero] at h
    simp only [Option.some.injEq, Prod.mk.injEq] at h
    exact ⟨fun _ => 0, fun i hi => absurd hi (Nat.not_lt_zero i), by rw [← h.2]; rfl⟩
  | c + 1, b, n, hP, h => by
    cases h1 : decUp t k P c with
    | none => rw [decUp_stop h1 (c + 1) (by omega)] at h; cases h
    | some x =>
      obtain ⟨b1, n1⟩ := x
      cases h2 : decP t k (P c) with
      | none => rw [decUp_none h1 h2] at h; cases h
      | some y =>
        obtain ⟨d, m⟩ := y
        rw [decUp_some h1 h2] at h
        simp only [Option.some.injEq, Prod.mk.injEq] at h
        obtain ⟨N, hN, hs⟩ := decUp_all c b1 n1 (fun i hi => hP i (by omega)) h1
        have hb1 := decUp_len c (fun i hi => hP i (by omega)) c (Nat.le_refl _) b1 n1 h1
        have hdl := decP_len (hP c (by omega)) h2
        refine ⟨fun i => if i = c then m else N i, fun i hi => ?_, ?_⟩
        · rw [← h.1]
          by_cases e : i = c
          · subst e
            simp only [if_true]
            rw [chunkL_last hb1 hdl]
            exact h2
          · simp only [if_neg e]
            rw [chunkL_left hb1 (by omega)]
            exact hN i (by omega)
        · rw [List.range_succ, List.map_append, List.sum_append, ← h.2, hs, sum_congr (N := N) (N' := fun i => if i = c then m else N i) c (fun i hi => by simp only [if_neg (show ¬ i = c by omega)])]
          simp
/-- what is found in any raw bytes: nothing, what is bad, or a page near them -/
theorem found_cases {t k c : Nat} (h1 : 1 ≤ t) (h8 : t ≤ 8) (h7 : 7 ≤ c * k) (P : Nat → List UInt8) (hP : ∀ i, i < c → (P i).length = k + (13 * t + 7) / 8) :
    (empUp t P c = true ∧ foundL t k c P = ⟨0, [], 0⟩) ∨ (empUp t P c = false ∧ foundL t k c P = ⟨2, [], 0⟩) ∨ (empUp t P c = false ∧ ∃ (x : List UInt8) (N : Nat → Nat), foundL t k c P = ⟨1, x, ((List.range c).map N).sum⟩ ∧ x.length = c * k - 7 ∧
      ∀ i, i < c → N i ≤ t ∧ dist (8 * k + 13 * t) (dbit (P i)) (dbit (pieceL (pageL t k c x) (k + (13 * t + 7) / 8) i)) = N i) := by
  cases he : empUp t P c with
  | true => exact .inl ⟨rfl, by unfold foundL; rw [he]; rfl⟩
  | false =>
    right
    cases hd : decUp t k P c with
    | none => exact .inl ⟨rfl, by unfold foundL; rw [he, hd]; rfl⟩
    | some bn =>
      obtain ⟨b, n⟩ := bn
      cases ho : openL b with
      | none => exact .inl ⟨rfl, by unfold foundL; rw [he, hd]; simp only [ho]; rfl⟩
      | some z =>
        cases hx : Lib.hasPrefix z [0, 0, 0] with
        | false => exact .inl ⟨rfl, by unfold foundL; rw [he, hd]; simp only [ho, hx]; rfl⟩
        | true =>
          right
          have hk : ∀ i, i < c → k ≤ (P i).length := fun i hi => by rw [hP i hi]; omega
          obtain ⟨N, hN, hs⟩ := decUp_all c b n hk hd
          have hbl := decUp_len c hk c (Nat.le_refl _) b n hd
          have hb := openL_some ho
          have hzl : z.length + 4 = c * k := by rw [← hbl, hb, sealed_length]
          have hz3 : z = [0, 0, 0] ++ z.drop 3 := by
            have h9 : List.isPrefixOf [0, 0, 0] z = true := hx
            obtain ⟨r, hr⟩ := List.isPrefixOf_iff_prefix.1 h9
            rw [← hr]; rfl
          have hxl : (z.drop 3).length = c * k - 7 := by rw [List.length_drop]; omega
          have hpg : pageL t k c (z.drop 3) = rawUp t k b c := by
            unfold pageL bodyL
            have : padL (c * k - 7) (z.drop 3) = z.drop 3 := by unfold padL; rw [hxl, Nat.sub_self, List.replicate_zero, List.append_nil]
            rw [this, ← hz3, ← hb]
          refine ⟨rfl, z.drop 3, N, ?_, hxl, fun i hi => ?_⟩
          · unfold foundL; rw [he, hd]; simp only [ho, hx, if_true, hs]; rfl
          · obtain ⟨a1, a2, a3⟩ := decP_code h1 h8 (hP i hi) (hN i hi)
            rw [hpg, rawUp_piece hbl i c (Nat.le_refl _) hi]
            exact ⟨a1, a3⟩
/-- bits 0 of a piece, counted byte by byte -/
theorem zer_step (l : List UInt8) (s i k : Nat) (hk : k < s) (hl : i * s + s ≤ l.length) : zer ((pieceL l s i).take (k + 1)) = zer ((pieceL l s i).take k) + pop ((l.getD (i * s + k) 0).toNat ^^^ 255) := by
  have hpl : (pieceL l s i).length = s := by unfold pieceL; rw [List.length_take, List.length_drop]; omega
  rw [zer_take _ k (by omega), piece_getD l s i k hk]
  have h := ones_xor ⟨(l.getD (i * s + k) 0).toNat, (l.getD (i * s + k) 0).toNat_lt⟩
  simp only at h
  rw [h]
theorem pieceL_take (l : List UInt8) (s i : Nat) : (pieceL l s i).take s = pieceL l s i := by
  unfold pieceL; rw [List.take_take, Nat.min_self]
theorem bytes_of (m : Nat) (f : Nat → Nat) (hf : ∀ j, f j < 256) : ∃ l : List UInt8, l.length = m ∧ ∀ j, j < m → f j = (l.getD j 0).toNat := by
  refine ⟨(List.range m).map fun j => UInt8.ofNat (f j), by simp, fun j hj => ?_⟩
  rw [List.getD_eq_getElem?_getD, List.getElem?_map, List.getElem?_range hj]
  show f j = (UInt8.ofNat (f j)).toNat
  rw [UInt8.toNat_ofNat', Nat.mod_eq_of_lt (hf j)]
end Go.Proofs.YtnppjfaecnikpaaGreatDoor
