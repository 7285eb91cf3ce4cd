import Derived.Test.YtoledgpcgjdjjaaGreatDoorQGFb
import Derived.Test.YtoledgpcgjdjjaaGreatDoorQGCf
import Derived.Laws.ResultCell
import Derived.Test.YtoledgpcgjdjjaaGreatDoorQGNn
import Derived.DataShut
import Derived.Deep.RegionHeld
import Derived.Test.YtoledgpcgjdjjaaGreatDoorQGCa
import Derived.Test.YtoledgpcgjdjjaaGreatDoorQGNC
import Derived.Test.YtoledgpcgjdjjaaGreatDoorQGHu
/- decode. -/
namespace Go.Proofs.YtoledgpcgjdjjaaGreatDoor
open F
open Go.RowKit Pm Cm
set_option linter.unusedVariables false

theorem extr_take (s : ByteArray) (k : Nat) : s.extract 0 k = ⟨(s.data.toList.take k).toArray⟩ := by
  apply ByteArray.ext
  apply Array.ext'
  exact extract_pre s k
theorem extr_drop (s : ByteArray) (k : Nat) : s.extract k s.size = ⟨(s.data.toList.drop k).toArray⟩ := by
  apply ByteArray.ext
  apply Array.ext'
  show (s.extract k s.size).data.toList = s.data.toList.drop k
  rw [ByteArray.data_extract, Array.toList_extract, List.extract_eq_take_drop, List.take_of_length_le]
  rw [List.length_drop]
  exact Nat.le_refl _
theorem decP_def (t k : Nat) (s : ByteArray) : decP t k s.data.toList = match decA t k (s.extract 0 k) (s.extract k s.size) with
    | none => none
    | some ps => some ((turns (8 * k + 13 * t) (wordOf t (s.extract 0 k) (s.extract k s.size)) ps).take k, ps.length) := by
  rw [extr_take, extr_drop]; rfl
theorem decode_no (cc t k : Nat) (s : ByteArray) (w : World) (h : CodeP w cc t (k : Int)) (ht1 : 1 ≤ t) (ht8 : t ≤ 8) (hk1 : 1 ≤ k) (hk : k ≤ 256) (hs : s.size = k + (13 * t + 7) / 8) (hd : decP t k s.data.toList = none) :
    Calls Tryz.prog 123 #[.pointer (some ⟨cc, 0, none⟩), .string (s.extract 0 k), .string (s.extract k s.size)] w fun e w' => e = .returned (.tuple #[.string ⟨#[]⟩, .string ⟨#[]⟩, .int .i64 0, .bool false]) ∧ Made w' cc t (k : Int) ∧ Upd (oneBlock cc) w w' :=
  (decode_eq cc t k (s.extract 0 k) (s.extract k s.size) w h ht1 ht8 hk1 hk (by rw [ByteArray.size_extract]; omega) (by rw [ByteArray.size_extract]; omega)).mono fun e w' ⟨he, hm, hu⟩ => by
    rw [decP_def] at hd
    rw [he]
    split at hd
    · rename_i h9
      rw [h9]
      exact ⟨rfl, hm, hu⟩
    · cases hd
theorem decode_yes (cc t k n : Nat) (s : ByteArray) (d : List UInt8) (w : World) (h : CodeP w cc t (k : Int)) (ht1 : 1 ≤ t) (ht8 : t ≤ 8) (hk1 : 1 ≤ k) (hk : k ≤ 256) (hs : s.size = k + (13 * t + 7) / 8) (hd : decP t k s.data.toList = some (d, n)) :
    Calls Tryz.prog 123 #[.pointer (some ⟨cc, 0, none⟩), .string (s.extract 0 k), .string (s.extract k s.size)] w fun e w' => (∃ par, e = .returned (.tuple #[.string ⟨d.toArray⟩, .string par, .int .i64 (n : Int), .bool true])) ∧ Made w' cc t (k : Int) ∧ Upd (oneBlock cc) w w' :=
  (decode_eq cc t k (s.extract 0 k) (s.extract k s.size) w h ht1 ht8 hk1 hk (by rw [ByteArray.size_extract]; omega) (by rw [ByteArray.size_extract]; omega)).mono fun e w' ⟨he, hm, hu⟩ => by
    rw [decP_def] at hd
    rw [he]
    split at hd
    · cases hd
    · rename_i ps h9
      rw [h9]
      simp only [Option.some.injEq, Prod.mk.injEq] at hd
      obtain ⟨rfl, rfl⟩ := hd
      exact ⟨⟨⟨((turns (8 * k + 13 * t) (wordOf t (s.extract 0 k) (s.extract k s.size)) ps).drop k).toArray⟩, rfl⟩, hm, hu⟩
theorem decP_small {t k n : Nat} {s d : List UInt8} (h : decP t k s = some (d, n)) : n ≤ t := by
  unfold decP at h
  split at h
  · cases h
  · rename_i ps h9
    simp only [Option.some.injEq, Prod.mk.injEq] at h
    have := (decA_some h9).2.2.1
    omega
theorem decUp_small {t k : Nat} {P : Nat → List UInt8} : ∀ i b n, decUp t k P i = some (b, n) → n ≤ i * t
  | 0, b, n, h => by
    simp only [decUp_zero, Option.some.injEq, Prod.mk.injEq] at h
    omega
  | i + 1, b, n, h => by
    cases h1 : decUp t k P i with
    | none => rw [decUp_stop h1 (i + 1) (by omega)] at h; cases h
    | some x =>
      obtain ⟨b1, n1⟩ := x
      cases h2 : decP t k (P i) with
      | none => rw [decUp_none h1 h2] at h; cases h
      | some y =>
        obtain ⟨d, m⟩ := y
        rw [decUp_some h1 h2] at h
        simp only [Option.some.injEq, Prod.mk.injEq] at h
        have := decUp_small i b1 n1 h1
        have := decP_small h2
        rw [Nat.succ_mul]; omega
def decE (a : Option (List UInt8 × Nat)) : Ending := match a with
  | none => .returned (.tuple #[.string ⟨#[]⟩, .int .i64 0, .bool false])
  | some (b, n) => .returned (.tuple #[.string ⟨b.toArray⟩, .int .i64 (n : Int), .bool true])
set_option maxRecDepth 100000 in
set_option maxHeartbeats 6400000 in
theorem pdecode_any (q : Nat) (b p : Int) (c k t : Nat) (ch bb : Nat) (pb : Nat → Nat) (M : Ch) (cc g : Nat) (f : Nat → ByteArray) (w : World) (hG : GoodG b p c k t) (h : PgrIn w q b p c k t ch bb pb M cc) (hT : TR w g c f) (hf : ∀ j, j < c → (f j).size = k + (13 * t + 7) / 8) :
    Calls Tryz.prog 101 #[.pointer (some ⟨q, 0, none⟩), .slice (some ⟨g, 0, none⟩) c c] w fun e w' => e = decE (decUp t k (fun j => (f j).data.toList) c) ∧ CodeP w' cc t (k : Int) ∧ Upd (oneBlock cc) w w' := by
  obtain ⟨b1, b2, p1, p2, p4, c1, c2, k1, k2, t1, t2⟩ := hG
  clear b1 b2 p1 p2 p4
  have hnot : ∀ (x : Bool) (w : World), (Op.unary .not (.bool x)).run Tryz.prog w = .ok (.bool (!x)) w := fun _ _ => rfl
  have ht1 : 1 ≤ t := by omega
  have ht8 : t ≤ 8 := by omega
  have hk1 : 1 ≤ k := by omega
  have hk2 : k ≤ 256 := by omega
  have HNO := Lib.hid (fun j W (hj : j < c) (hW : CodeP W cc t (k : Int)) hd => decode_no cc t k (f j) W hW ht1 ht8 hk1 hk2 (hf j hj) hd)
  have HYES := Lib.hid (fun j n d W (hj : j < c) (hW : CodeP W cc t (k : Int)) hd => decode_yes cc t k n (f j) d W hW ht1 ht8 hk1 hk2 (hf j hj) hd)
  have HSZ := Lib.hid (fun j (hj : j < c) => hf j hj)
  have HLEN := Lib.hid (fun i (hi : i ≤ c) b n hd => decUp_len (t := t) (k := k) (P := fun j => (f j).data.toList) c (fun i hi => by have := hf i hi; show k ≤ (f i).size; omega) i hi b n hd)
  have HSM := Lib.hid (fun i b n hd => decUp_small (t := t) (k := k) (P := fun j => (f j).data.toList) i b n hd)
  have HSOME := Lib.hid (fun i n m b d h h2 => decUp_some (t := t) (k := k) (P := fun j => (f j).data.toList) (i := i) (n := n) (m := m) (b := b) (d := d) h h2)
  have HSTOP := Lib.hid (fun i n b (hi : i < c) h h2 => decUp_stop (decUp_none (t := t) (k := k) (P := fun j => (f j).data.toList) (i := i) (n := n) (b := b) h h2) c hi)
  have HQ : Hid (∀ W, Upd (oneBlock cc) w W → W.cell? ⟨q, 3, none⟩ = some (.int .i64 (k : Int)) ∧ W.cell? ⟨q, 6, none⟩ = some (.pointer (some ⟨cc, 0, none⟩))) := fun W hW => by
    have h9 := h.pg.upd hW (fun e => h.q_cc e)
    exact ⟨h9.c3, h9.c6⟩
  have HC : Hid (∀ W j, Upd (oneBlock cc) w W → j < c → W.cell? ⟨g, j, none⟩ = some (.string (f j))) := fun W j hW hj => by
    obtain ⟨x, hx⟩ := h.code.block
    obtain ⟨y, hy⟩ := hT.block
    exact (hT.upd hW (fun e => apart hy hx (by decide) e)).cell j hj
  have HP0 := Lib.hid (PB.start h.code)
  have HD0 : Hid (decUp t k (fun j => (f j).data.toList) 0 = some ([], 0)) := rfl
  obtain ⟨D, hD⟩ : ∃ D, decUp t k (fun j => (f j).data.toList) = D := ⟨_, rfl⟩
  rw [hD] at HLEN HSM HSOME HSTOP HD0 ⊢
  clear hf h hT hD
  obtain ⟨B, hB⟩ : ∃ B, B = w.heap.size := ⟨_, rfl⟩
  go_enter Tryz.func101, Tryz.ntmps101
  go_wp2
  rw [← hB] at HP0 ⊢
  clear hB
  go_loopw [8, 18] (fun s i wr => ∃ (j n : Nat) (l : List UInt8), j ≤ c ∧ i = .int .i64 (j : Int) ∧ s = .int .i64 (n : Int) ∧ Hid (D j = some (l, n)) ∧ Hid (PB w cc t (k : Int) B l wr)) (fun _ i _ => c - (intOf i).toNat)
  case atStart => exact ⟨0, 0, [], Nat.zero_le _, rfl, rfl, HD0, HP0⟩
  case round =>
    clear HP0 HD0
    obtain ⟨j, n, l, hj, rfl, rfl, HD, HP⟩ := hrel
    by_cases h0 : j < c
    · obtain ⟨z3, z6⟩ := HQ.out wr HP.out.u
      have zj := HC.out wr j HP.out.u h0
      have hn := HSM.out j l n HD.out
      have hn2 : n ≤ 32 := Nat.le_trans hn (Nat.mul_le_mul (show j ≤ 4 by omega) ht8)
      have hl := HLEN.out j hj l n HD.out
      have hl2 : l.length ≤ 1024 := by rw [hl]; exact Nat.mul_le_mul (show j ≤ 4 by omega) hk2
      have hsz := HSZ.out j h0
      have HL2 := Lib.hid hl2
      clear hn hl hl2
      have HNO1 := Lib.hid (fun W hW hd => HNO.out j W h0 hW hd)
      have HYES1 := Lib.hid (fun n d W hW hd => HYES.out j n d W h0 hW hd)
      have HSO1 := Lib.hid (fun m d h2 => HSOME.out j n m l d HD.out h2)
      have HST1 := Lib.hid (fun h2 => HSTOP.out j n l h0 HD.out h2)
      obtain ⟨s, hs⟩ : ∃ s, f j = s := ⟨_, rfl⟩
      rw [hs] at HNO1 HYES1 HSO1 HST1 zj hsz
      have hks : k ≤ s.size := by omega
      have hs2 : s.size ≤ 4096 := by omega
      have hmin : min (k : Int) (s.size : Int) = (k : Int) := by omega
      clear hs hsz
      have HK : Hid (∀ W, Hid (PB w cc t (k : Int) B l W) → W.cell? ⟨q, 6, none⟩ = some (.pointer (some ⟨cc, 0, none⟩)) ∧ Hid (PB w cc t (k : Int) B l W)) := fun W h => ⟨(HQ.out W h.out.u).2, h⟩
      cases hd : decP t k s.data.toList with
      | none =>
        have HN := Lib.hid (fun W hW => HNO1.out W hW hd)
        have HE := Lib.hid (HST1.out hd)
        clear HNO1 HYES1 HSO1 HST1 hd
        go_upto_region 7 with fail
        go_region_held3 (fun W => W.cell? ⟨q, 6, none⟩ = some (.pointer (some ⟨cc, 0, none⟩)) ∧ Hid (PB w cc t (k : Int) B l W))
          (first | exact HK.out _ HP | exact HK.out _ HP.out.drew | exact HK.out _ SW)
          (first | (go_at_call 123; go_split_ands; (with_reducible refine (HN.out _ (PB.code (Hid.out (by assumption)))).mono ?_); rintro e w5 ⟨rfl, hm5, hu5⟩; have SW : Hid (PB w cc t (k : Int) B l w5) := PB.coded (Hid.out (by assumption)) hm5 hu5; clear hm5 hu5))
        all_goals
          go_wp2_with fail
          go_returns
          exact ⟨by rw [HE.out]; rfl, SW.out.code, SW.out.u⟩
      | some x =>
        obtain ⟨d, m⟩ := x
        have HY := Lib.hid (fun W hW => HYES1.out m d W hW hd)
        have HE := Lib.hid (HSO1.out m d hd)
        have hm := decP_small hd
        have hdl := decP_len (show k ≤ s.data.toList.length from hks) hd
        have HWR : Hid (∀ W, PB w cc t (k : Int) B l W → Calls Tryz.prog 124 #[.pointer (some ⟨B, 0, none⟩), .string ⟨d.toArray⟩] W fun e w' => (∃ z, e = .returned (.tuple #[.int .i64 z, .nilIface])) ∧ PB w cc t (k : Int) B (l ++ d) w') := fun W hW =>
          (bwrite_any B B l ⟨d.toArray⟩ W hW.bl (by
            have h2 : (⟨d.toArray⟩ : ByteArray).size = d.length := by simp [ByteArray.size]
            have := HL2.out
            omega) hW.lt).mono fun e w' ⟨h1, h2, h3⟩ => ⟨⟨_, h1⟩, hW.wrote h2 h3⟩
        clear HNO1 HYES1 HSO1 HST1 hd hdl
        go_upto_region 7 with fail
        go_region_held3 (fun W => W.cell? ⟨q, 6, none⟩ = some (.pointer (some ⟨cc, 0, none⟩)) ∧ Hid (PB w cc t (k : Int) B l W))
          (first | exact HK.out _ HP | exact HK.out _ HP.out.drew | exact HK.out _ SW)
          (first | (go_at_call 123; go_split_ands; (with_reducible refine (HY.out _ (PB.code (Hid.out (by assumption)))).mono ?_); rintro e w5 ⟨⟨par, rfl⟩, hm5, hu5⟩; have SW : Hid (PB w cc t (k : Int) B l w5) := PB.coded (Hid.out (by assumption)) hm5 hu5; clear hm5 hu5))
        all_goals
          clear HP
          go_wp2_with (go_at_call 124; (with_reducible refine (HWR.out _ SW.out).mono ?_); rintro e w7 ⟨⟨z7, rfl⟩, hp7⟩; have P7 := Lib.hid hp7; clear hp7)
          go_roundw
          case rel => exact ⟨j + 1, n + m, l ++ d, by omega, by go_num, by go_num, HE, P7⟩
          case measure => simp [intOf]; omega
    · obtain rfl : j = c := by omega
      have HS := Lib.hid (bstring_any B B l wr HP.out.bl HP.out.lt)
      go_wp2_with (go_at_call 125; (with_reducible refine HS.out.mono ?_); rintro e w3 ⟨rfl, hb3, hu3⟩; have P3 := Lib.hid (HP.out.wrote hb3 hu3); clear hb3 hu3)
      go_returns
      exact ⟨by rw [HD.out]; rfl, P3.out.code, P3.out.u⟩
end Go.Proofs.YtoledgpcgjdjjaaGreatDoor

/- Write, Read. -/
namespace Go.Proofs.YtoledgpcgjdjjaaGreatDoor
open F
open Go.RowKit Pm Cm
set_option linter.unusedVariables false

theorem toInt_mul (c k : Nat) (h7 : 7 ≤ c * k) : (c : Int) * (k : Int) - 7 = ((c * k - 7 : Nat) : Int) := by
  have : (c : Int) * (k : Int) = ((c * k : Nat) : Int) := by push_cast; rfl
  omega
set_option maxRecDepth 100000 in
set_option maxHeartbeats 3200000 in
theorem write_gen (q : Nat) (b p : Int) (c k t : Nat) (ch bb : Nat) (pb : Nat → Nat) (M M' : Ch) (cc : Nat) (x y r : Int) (s : ByteArray) (w : World) (hG : GoodG b p c k t) (h : PgrIn w q b p c k t ch bb pb M cc) (hT : Tab w) (hs : s.size ≤ c * k - 7)
    (HPR : ∀ W, ChipIn W ch bb pb M → Calls Tryz.prog 140 #[.pointer (some ⟨ch, 0, none⟩), .int .i64 x, .int .i64 y, .string ⟨(pageL t k c s.data.toList).toArray⟩] W fun e w' => e = .returned (.int .i64 r) ∧ ChipIn w' ch bb pb M' ∧ Upd (Own ch bb pb M.nb) W w') :
    Calls Tryz.prog 108 #[.pointer (some ⟨q, 0, none⟩), .int .i64 x, .int .i64 y, .string s] w fun e w' => e = .returned (.int .i64 r) ∧ PgrIn w' q b p c k t ch bb pb M' cc ∧ Upd (POwn ch bb pb M.nb cc) w w' := by
  have HPAY := Lib.hid (fun W => payload_any b p c k t W hG)
  have HBODY := Lib.hid (fun W (hW : Upd noBlock w W) => pbody_any q b p c k t ch cc s W hG (h.pg.keep hW) (hT.upd hW) hs)
  have m1 : 16 ≤ c * k := by have := Nat.mul_le_mul (show 1 ≤ c by have := hG.c1; omega) (show 16 ≤ k by have := hG.k1; omega); omega
  have hbl := bodyL_length (n := c * k - 7) (l := s.data.toList) hs
  have HRAWP := Lib.hid (fun W (hW : Upd noBlock w W) => praw_any q b p c k t ch bb pb M cc ⟨(bodyL (c * k - 7) s.data.toList).toArray⟩ W hG (h.keep hW) (by show (bodyL (c * k - 7) s.data.toList).toArray.size = _; rw [List.size_toArray, hbl]; omega))
  have HPG : Hid (rawUp t k (⟨(bodyL (c * k - 7) s.data.toList).toArray⟩ : ByteArray).data.toList c = pageL t k c s.data.toList) := rfl
  rw [HPG.out] at HRAWP
  have HI := Lib.hid (fun W (hW : Upd (oneBlock cc) w W) (hm : CodeP W cc t (k : Int)) => h.coded hW hm)
  have HPR' := Lib.hid HPR
  rw [toInt_mul c k (by omega)] at HPAY
  obtain ⟨n, hn⟩ : ∃ n, c * k - 7 = n := ⟨_, rfl⟩
  rw [hn] at HPAY hs HBODY HRAWP
  generalize pageL t k c s.data.toList = pl at *
  generalize bodyL n s.data.toList = bl at *
  clear hn m1 hG hbl HPG HPR hT
  have d1 : decide (n < s.size) = false := decide_eq_false (by omega)
  have d2 : decide ((n : Int) < (s.size : Int)) = false := decide_eq_false (by omega)
  have z0 := h.pg.c0
  have z1 := h.pg.c1
  have z2 := h.pg.c2
  have z3 := h.pg.c3
  have z4 := h.pg.c4
  have HQ : Hid (∀ W, Hid (PgrB W q b p (c : Int) (k : Int) (t : Int) ch cc) → W.cell? ⟨q, 5, none⟩ = some (.pointer (some ⟨ch, 0, none⟩)) ∧ Hid (PgrB W q b p (c : Int) (k : Int) (t : Int) ch cc)) := fun W hW => ⟨hW.out.c5, hW⟩
  have HP1 : Hid (∀ W, Upd noBlock w W → PgrB W q b p (c : Int) (k : Int) (t : Int) ch cc) := fun W hW => h.pg.keep hW
  clear h
  unfold geoV at HPAY
  go_enter Tryz.func108, Tryz.ntmps108
  go_upto_region 5 with (first
    | (go_at_call 59; (with_reducible refine (HPAY.out _).mono ?_); rintro e w1 ⟨rfl, hu1⟩; have U1 := Lib.hid hu1; clear hu1))
  have SR := Lib.hid (HP1.out _ U1.out)
  go_region_held3 (fun W => W.cell? ⟨q, 5, none⟩ = some (.pointer (some ⟨ch, 0, none⟩)) ∧ Hid (PgrB W q b p (c : Int) (k : Int) (t : Int) ch cc))
    (first | exact HQ.out _ SC | exact HQ.out _ SB | exact HQ.out _ SA | exact HQ.out _ SR | exact HQ.out (World.drew _) SR)
    (first
      | (go_at_call 142; (with_reducible refine (HBODY.out _ (by first | exact U1.out | exact U1.out.drew)).mono ?_); rintro e w5 ⟨rfl, hu5⟩; have U5 : Hid (Upd noBlock w w5) := Lib.hid (by first | exact U1.out.trans hu5 | exact U1.out.drew.trans hu5); have SA : Hid (PgrB w5 q b p (c : Int) (k : Int) (t : Int) ch cc) := HP1.out _ U5.out; clear hu5)
      | (go_at_call 141; (with_reducible refine (HRAWP.out _ U5.out).mono ?_); rintro e w6 ⟨rfl, hc6, hu6⟩; have U6 : Hid (Upd (oneBlock cc) w w6) := (POwn.none U5.out).trans hu6; have I6 := Lib.hid (HI.out _ U6.out hc6); have SB : Hid (PgrB w6 q b p (c : Int) (k : Int) (t : Int) ch cc) := I6.out.pg; clear hu6 hc6)
      | (go_at_call 140; (with_reducible refine (HPR'.out _ I6.out.chip).mono ?_); rintro e w7 ⟨rfl, hc7, hu7⟩; have U7 : Hid (Upd (POwn ch bb pb M.nb cc) w w7) := (POwn.code U6.out).trans (POwn.chip hu7); have I7 := Lib.hid (I6.out.chipped hu7 hc7); have SC : Hid (PgrB w7 q b p (c : Int) (k : Int) (t : Int) ch cc) := I7.out.pg; clear hu7 hc7))
  all_goals
    go_wp2_with fail
    go_ret
    exact ⟨rfl, I7.out, U7.out⟩
end Go.Proofs.YtoledgpcgjdjjaaGreatDoor

/- Read. -/
namespace Go.Proofs.YtoledgpcgjdjjaaGreatDoor
open F
open Go.RowKit Pm Cm
set_option linter.unusedVariables false
attribute [local irreducible] openL decUp empUp

theorem ret_cell2F {P : Program} {fn : Func} {p u : Tmp} {ty : TypeId} (h : fn.results = #[.cell p ty, .tmp u]) (tmps : Array Value) (w : World) (g : Nat) (t : TypeId) (cs : Array Value) (fr : Nat × Nat) (d : TypeDesc) (b : Value)
    (hp : tmps.getD p undef = .pointer (some ⟨g, 0, none⟩)) (hg : w.heap[g]? = some (.cells cs t fr))
    (hu : P.underlying ty = some d) (hd : (match d with | .struct _ | .array _ _ => true | _ => false) = true) (hi : (P.info? ty).map (·.size) = some cs.size) (hb : tmps.getD u undef = b) :
    (results fn tmps).run P w = .ok (.tuple #[.agg cs, b]) w := by
  have hp' : tmps[p]?.getD undef = .pointer (some ⟨g, 0, none⟩) := by simpa using hp
  rw [results_cell_tmp h, hp, hb]
  simp [asAddr, Result.andThen, run_loadVar_row w g t ty cs fr d hg hu hd hi]
theorem PgrIn.alien {w w' : World} {q : Nat} {b p : Int} {c k t : Nat} {ch bb : Nat} {pb : Nat → Nat} {M : Ch} {cc g : Nat} {y : Array Value} {T : TypeId} (h : PgrIn w q b p c k t ch bb pb M cc) (hy : w.heap[g]? = some (.cells y T (0, 0)))
    (hT : ¬ 118 = T ∧ ¬ 5 = T ∧ ¬ 177 = T ∧ ¬ 3 = T ∧ ¬ T = 125 ∧ ¬ T = 132 ∧ ¬ T = 147) (hu : Upd (oneBlock g) w w') : PgrIn w' q b p c k t ch bb pb M cc := by
  obtain ⟨x, hx⟩ := h.code.block
  obtain ⟨t1, t2, t3, t4, t5, t6, t7⟩ := hT
  refine ⟨h.pg.upd hu (fun e => apart h.pg hy t1 e), h.chip.upd hu (fun i hi e => ?_) (fun g' a z hg e => apart hg hy t2 e), h.code.by hu (fun e => apart hx hy t3 e) (fun g' a z hg e => apart hg hy t4 e)⟩
  have e' : i = g := e
  rw [e'] at hi
  rcases hi with e1 | e1 | ⟨b, hb, e1⟩
  · exact apart hy h.chip.top t5 e1
  · obtain ⟨z, hz⟩ := row_block h.chip.blks
    exact apart hy hz t6 e1
  · obtain ⟨z, hz⟩ := (h.chip.pgs b hb).block
    exact apart hy hz t7 e1
structure PR (w : World) (q : Nat) (b p : Int) (c k t : Nat) (ch bb : Nat) (pb : Nat → Nat) (nb : Nat) (M : Ch) (cc r0 : Nat) (W : World) : Prop where
  i : PgrIn W q b p c k t ch bb pb M cc
  u : Upd (POwn ch bb pb nb cc) w W
  r : W.heap[r0]? = some (.cells #[.int .i64 0, .string ⟨#[]⟩, .int .i64 0] 101 (0, 0))
  r1 : w.heap.size ≤ r0
  c1 : cc < w.heap.size
section
variable {w W W' : World} {q : Nat} {b p : Int} {c k t : Nat} {ch bb nb : Nat} {pb : Nat → Nat} {M : Ch} {cc r0 : Nat}
theorem PR.coded (h : PR w q b p c k t ch bb pb nb M cc r0 W) (hi : CodeP W' cc t (k : Int)) (hu : Upd (oneBlock cc) W W') : PR w q b p c k t ch bb pb nb M cc r0 W' := by
  have h1 := h.r1
  have h2 := h.c1
  exact ⟨h.i.coded hu hi, h.u.trans (hu.mono fun _ _ e => .inr e), (hu.block r0 (lt_of_block h.r) (fun e => by have e' : r0 = cc := e; omega)).trans h.r, h1, h2⟩
theorem PR.quiet (h : PR w q b p c k t ch bb pb nb M cc r0 W) (hu : Upd noBlock W W') : PR w q b p c k t ch bb pb nb M cc r0 W' :=
  ⟨h.i.keep hu, h.u.trans (POwn.none hu), (hu.block r0 (lt_of_block h.r) (fun e => e)).trans h.r, h.r1, h.c1⟩
theorem PR.cells (h : PR w q b p c k t ch bb pb nb M cc r0 W) : W.cell? ⟨r0, 0, none⟩ = some (.int .i64 0) ∧ W.cell? ⟨r0, 1, none⟩ = some (.string ⟨#[]⟩) ∧ W.cell? ⟨r0, 2, none⟩ = some (.int .i64 0) ∧ W.frozen? ⟨r0, 0, none⟩ = false ∧ W.frozen? ⟨r0, 1, none⟩ = false ∧ W.frozen? ⟨r0, 2, none⟩ = false :=
  ⟨cell_of h.r 0, cell_of h.r 1, cell_of h.r 2, free_of h.r 0, free_of h.r 1, free_of h.r 2⟩
end
theorem fndInfo : (Tryz.prog.info? 101).map (·.size) = some 3 := by kernel_rfl
theorem PR.found {w W : World} {q : Nat} {b p : Int} {c k t : Nat} {ch bb nb : Nat} {pb : Nat → Nat} {M : Ch} {cc r0 : Nat} (h : PR w q b p c k t ch bb pb nb M cc r0 W) (x y z : Value) :
    (((W.setCell ⟨r0, 0, none⟩ x).setCell ⟨r0, 1, none⟩ y).setCell ⟨r0, 2, none⟩ z).heap[r0]? = some (.cells #[x, y, z] 101 (0, 0)) ∧ PgrIn (((W.setCell ⟨r0, 0, none⟩ x).setCell ⟨r0, 1, none⟩ y).setCell ⟨r0, 2, none⟩ z) q b p c k t ch bb pb M cc ∧ Upd (POwn ch bb pb nb cc) w (((W.setCell ⟨r0, 0, none⟩ x).setCell ⟨r0, 1, none⟩ y).setCell ⟨r0, 2, none⟩ z) := by
  have hu : Upd (oneBlock r0) W (((W.setCell ⟨r0, 0, none⟩ x).setCell ⟨r0, 1, none⟩ y).setCell ⟨r0, 2, none⟩ z) :=
    (((Upd.refl (oneBlock r0) W).setCell (p := ⟨r0, 0, none⟩) (.inl rfl) x).setCell (p := ⟨r0, 1, none⟩) (.inl rfl) y).setCell (p := ⟨r0, 2, none⟩) (.inl rfl) z
  refine ⟨block_set (block_set (block_set h.r x) y) z, h.i.alien h.r (by decide) hu, h.u.step hu fun i hi e => ?_⟩
  have e' : i = r0 := e
  have := h.r1
  omega
set_option maxRecDepth 100000 in
set_option maxHeartbeats 3200000 in
theorem pread_gen (q : Nat) (b p : Int) (c k t : Nat) (ch bb : Nat) (pb : Nat → Nat) (M M' : Ch) (cc : Nat) (x y : Int) (raw : ByteArray) (w : World) (hG : GoodG b p c k t) (h : PgrIn w q b p c k t ch bb pb M cc) (hr : raw.size = rawN t k c)
    (hT : ∀ W, Upd (POwn ch bb pb M.nb cc) w W → Tab W) (hnb : M'.nb = M.nb)
    (HRD : ∀ W, ChipIn W ch bb pb M → Calls Tryz.prog 98 #[.pointer (some ⟨ch, 0, none⟩), .int .i64 x, .int .i64 y] W fun e w' => e = .returned (.tuple #[.string raw, .int .i64 0]) ∧ ChipIn w' ch bb pb M' ∧ Upd (Own ch bb pb M.nb) W w') :
    Calls Tryz.prog 74 #[.pointer (some ⟨q, 0, none⟩), .int .i64 x, .int .i64 y] w fun e w' => e = .returned (.tuple #[(foundL t k c (pieceL raw.data.toList (k + (13 * t + 7) / 8))).val, .int .i64 0]) ∧ PgrIn w' q b p c k t ch bb pb M' cc ∧ Upd (POwn ch bb pb M.nb cc) w w' := by
  have hnot : ∀ (x : Bool) (w : World), (Op.unary .not (.bool x)).run Tryz.prog w = .ok (.bool (!x)) w := fun _ _ => rfl
  obtain ⟨r0, hr0⟩ : ∃ r0, r0 = w.heap.size := ⟨_, rfl⟩
  obtain ⟨wa, hwa⟩ : ∃ wa, wa = w.alloc (.cells #[.int .i64 0, .string ⟨#[]⟩, .int .i64 0] 101) := ⟨_, rfl⟩
  have UA : Hid (Upd noBlock w wa) := by rw [hwa]; exact (Upd.refl _ _).alloc _
  have RA : Hid (wa.heap[r0]? = some (.cells #[.int .i64 0, .string ⟨#[]⟩, .int .i64 0] 101 (0, 0))) := by rw [hwa, hr0]; exact heap_alloc_new w _
  have IA := Lib.hid (h.keep UA.out)
  have HOW : Hid (∀ i, Own ch bb pb M.nb i → i < w.heap.size) := fun i hi => h.chip.lt hi
  have HC1 : Hid (cc < w.heap.size) := h.code.lt
  have HRD' : Hid (∀ W, Upd noBlock wa W → Calls Tryz.prog 98 #[.pointer (some ⟨ch, 0, none⟩), .int .i64 x, .int .i64 y] W fun e w' => e = .returned (.tuple #[.string raw, .int .i64 0]) ∧ PR w q b p c k t ch bb pb M.nb M' cc r0 w') := fun W hW =>
    (HRD W (IA.out.keep hW).chip).mono fun e w' ⟨he, hc, hu⟩ => ⟨he, (IA.out.keep hW).chipped hu hc, (POwn.none (UA.out.trans hW)).trans (POwn.chip hu), (hu.block r0 (Nat.lt_of_lt_of_le (lt_of_block RA.out) hW.size) (fun e => by have := HOW.out r0 e; omega)).trans ((hW.block r0 (lt_of_block RA.out) (fun e => e)).trans RA.out), Nat.le_of_eq hr0.symm, HC1.out⟩
  have HPC : Hid (∀ W, PR w q b p c k t ch bb pb M.nb M' cc r0 W → Calls Tryz.prog 99 #[.pointer (some ⟨q, 0, none⟩), .string raw] W fun e w' => ∃ g, e = .returned (.slice (some ⟨g, 0, none⟩) c c) ∧ TR w' g c (fun j => pcT raw (k + (13 * t + 7) / 8) j) ∧ PR w q b p c k t ch bb pb M.nb M' cc r0 w') := fun W hW =>
    (pieces_any q b p c k t ch bb pb M' cc raw W hG hW.i hr).mono fun e w' ⟨g, he, hT, _, hp⟩ => ⟨g, he, hT, hW.coded hp.i.code hp.u⟩
  have hsz : ∀ j, j < c → (pcT raw (k + (13 * t + 7) / 8) j).size = k + (13 * t + 7) / 8 := fun j hj => pcT_size raw _ j c hr hj
  have hfe : (fun j => (pcT raw (k + (13 * t + 7) / 8) j).data.toList) = pieceL raw.data.toList (k + (13 * t + 7) / 8) := funext fun j => pcT_list raw _ j
  have HEM : Hid (∀ g W, TR W g c (fun j => pcT raw (k + (13 * t + 7) / 8) j) → PR w q b p c k t ch bb pb M.nb M' cc r0 W → Calls Tryz.prog 100 #[.pointer (some ⟨q, 0, none⟩), .slice (some ⟨g, 0, none⟩) c c] W fun e w' => e = .returned (.bool (empUp t (pieceL raw.data.toList (k + (13 * t + 7) / 8)) c)) ∧ TR w' g c (fun j => pcT raw (k + (13 * t + 7) / 8) j) ∧ PR w q b p c k t ch bb pb M.nb M' cc r0 w') := fun g W hT hW => by
    have h9 := empty_any q b p c k t ch cc g _ W hW.i.pg hT (by have := hG.c2; omega) (by have := hG.t2; omega) (fun j hj => by rw [hsz j hj]; have := hG.t2; have := hG.k2; omega)
    rw [hfe] at h9
    exact h9.mono fun e w' ⟨he, hu⟩ => ⟨he, hT.grow hu, hW.quiet hu⟩
  have HDE : Hid (∀ g W, TR W g c (fun j => pcT raw (k + (13 * t + 7) / 8) j) → PR w q b p c k t ch bb pb M.nb M' cc r0 W → Calls Tryz.prog 101 #[.pointer (some ⟨q, 0, none⟩), .slice (some ⟨g, 0, none⟩) c c] W fun e w' => e = decE (decUp t k (pieceL raw.data.toList (k + (13 * t + 7) / 8)) c) ∧ PR w q b p c k t ch bb pb M.nb M' cc r0 w') := fun g W hT hW => by
    have h9 := pdecode_any q b p c k t ch bb pb M' cc g _ W hG hW.i hT hsz
    rw [hfe] at h9
    exact h9.mono fun e w' ⟨he, hc, hu⟩ => ⟨he, hW.coded hc hu⟩
  have HTAB : Hid (∀ W, PR w q b p c k t ch bb pb M.nb M' cc r0 W → Tab W) := fun W hW => hT W hW.u
  have hbl : ∀ b n, decUp t k (pieceL raw.data.toList (k + (13 * t + 7) / 8)) c = some (b, n) → b.length = c * k := fun b n hd => by
    refine decUp_len c (fun i hi => ?_) c (Nat.le_refl _) b n hd
    rw [← hfe]
    show k ≤ (pcT raw (k + (13 * t + 7) / 8) i).size
    rw [hsz i hi]; omega
  have hck : c * k ≤ 1024 := Nat.mul_le_mul (show c ≤ 4 by have := hG.c2; omega) (show k ≤ 256 by have := hG.k2; omega)
  have ZQ := IA.out.pg.c5
  unfold foundL
  obtain ⟨P, hP⟩ : ∃ P, pieceL raw.data.toList (k + (13 * t + 7) / 8) = P := ⟨_, rfl⟩
  rw [hP] at HEM HDE hbl ⊢
  clear hP hfe hsz HRD hT h hr hG
  by_cases h0 : empUp t P c = true
  · rw [if_pos h0]
    rw [h0] at HEM
    clear h0 hbl HDE
    go_enter Tryz.func74, Tryz.ntmps74
    go_upto_region 1 with fail
    rw [← hwa, ← hr0]
    clear hwa hr0
    go_wp2_with (first
      | (go_at_call 98; (with_reducible refine (HRD'.out _ (Upd.refl _ _)).mono ?_); rintro e w2 ⟨rfl, hp2⟩; have P2 := Lib.hid hp2; clear hp2)
      | (go_at_call 99; (with_reducible refine (HPC.out _ P2.out).mono ?_); rintro e w3 ⟨g, rfl, ht3, hp3⟩; have T3 := Lib.hid ht3; have P3 := Lib.hid hp3; clear ht3 hp3)
      | (go_at_call 100; (with_reducible refine (HEM.out _ _ T3.out P3.out).mono ?_); rintro e w4 ⟨rfl, ht4, hp4⟩; have T4 := Lib.hid ht4; have P4 := Lib.hid hp4; obtain ⟨y0, y1, y2, f0, f1, f2⟩ := hp4.cells; clear ht4 hp4))
    obtain ⟨h1, h2, h3⟩ := P4.out.found _ _ _
    exact bodyPost_ret_by (ret_cell2F rfl _ _ r0 _ _ _ _ _ rfl h1 Tryz.underlying101 rfl fndInfo rfl) rfl ⟨rfl, h2, h3⟩
  · rw [if_neg h0]
    have h0' : empUp t P c = false := by simpa using h0
    rw [h0'] at HEM
    clear h0 h0'
    cases hd : decUp t k P c with
    | none =>
      simp only []
      rw [hd] at HDE
      unfold decE at HDE
      clear hd hbl
      go_enter Tryz.func74, Tryz.ntmps74
      go_upto_region 1 with fail
      rw [← hwa, ← hr0]
      clear hwa hr0
      go_wp2_with (first
        | (go_at_call 98; (with_reducible refine (HRD'.out _ (Upd.refl _ _)).mono ?_); rintro e w2 ⟨rfl, hp2⟩; have P2 := Lib.hid hp2; clear hp2)
        | (go_at_call 99; (with_reducible refine (HPC.out _ P2.out).mono ?_); rintro e w3 ⟨g, rfl, ht3, hp3⟩; have T3 := Lib.hid ht3; have P3 := Lib.hid hp3; clear ht3 hp3)
        | (go_at_call 100; (with_reducible refine (HEM.out _ _ T3.out P3.out).mono ?_); rintro e w4 ⟨rfl, ht4, hp4⟩; have T4 := Lib.hid ht4; have P4 := Lib.hid hp4; obtain ⟨y0, y1, y2, f0, f1, f2⟩ := hp4.cells; clear ht4 hp4)
        | (go_at_call 101; (with_reducible refine (HDE.out _ _ T4.out P4.out).mono ?_); rintro e w5 ⟨rfl, hp5⟩; have P5 := Lib.hid hp5; obtain ⟨y0, y1, y2, f0, f1, f2⟩ := hp5.cells; clear hp5))
      obtain ⟨h1, h2, h3⟩ := P5.out.found _ _ _
      exact bodyPost_ret_by (ret_cell2F rfl _ _ r0 _ _ _ _ _ rfl h1 Tryz.underlying101 rfl fndInfo rfl) rfl ⟨rfl, h2, h3⟩
    | some bn =>
      obtain ⟨b, n⟩ := bn
      have hb := hbl b n hd
      rw [hd] at HDE
      unfold decE at HDE
      simp only []
      have hbs : (⟨b.toArray⟩ : ByteArray).size ≤ 281474976710656 := by show b.toArray.size ≤ _; rw [List.size_toArray, hb]; omega
      clear hd hbl
      cases ho : openL b with
      | none =>
        have HOP := Lib.hid (fun W hW => open_no ⟨b.toArray⟩ W (openL_none ho) hbs hW)
        clear ho hb
        simp only []
        go_enter Tryz.func74, Tryz.ntmps74
        go_upto_region 1 with fail
        rw [← hwa, ← hr0]
        clear hwa hr0
        go_wp2_with (first
          | (go_at_call 98; (with_reducible refine (HRD'.out _ (Upd.refl _ _)).mono ?_); rintro e w2 ⟨rfl, hp2⟩; have P2 := Lib.hid hp2; clear hp2)
          | (go_at_call 99; (with_reducible refine (HPC.out _ P2.out).mono ?_); rintro e w3 ⟨g, rfl, ht3, hp3⟩; have T3 := Lib.hid ht3; have P3 := Lib.hid hp3; clear ht3 hp3)
          | (go_at_call 100; (with_reducible refine (HEM.out _ _ T3.out P3.out).mono ?_); rintro e w4 ⟨rfl, ht4, hp4⟩; have T4 := Lib.hid ht4; have P4 := Lib.hid hp4; obtain ⟨y0, y1, y2, f0, f1, f2⟩ := hp4.cells; clear ht4 hp4)
          | (go_at_call 101; (with_reducible refine (HDE.out _ _ T4.out P4.out).mono ?_); rintro e w5 ⟨rfl, hp5⟩; have P5 := Lib.hid hp5; obtain ⟨y0, y1, y2, f0, f1, f2⟩ := hp5.cells; clear hp5)
          | (go_at_call 102; (with_reducible refine (HOP.out _ (HTAB.out _ P5.out)).mono ?_); rintro e w6 ⟨rfl, hu6⟩; have P6 := Lib.hid (P5.out.quiet hu6); obtain ⟨y0, y1, y2, f0, f1, f2⟩ := P6.out.cells; clear hu6))
        obtain ⟨h1, h2, h3⟩ := P6.out.found _ _ _
        exact bodyPost_ret_by (ret_cell2F rfl _ _ r0 _ _ _ _ _ rfl h1 Tryz.underlying101 rfl fndInfo rfl) rfl ⟨rfl, h2, h3⟩
      | some z =>
        have HOP := Lib.hid (fun W hW => open_yes z ⟨b.toArray⟩ W (openL_some ho) hbs hW)
        have hz : z.length + 4 = c * k := by rw [← hb, openL_some ho, sealed_length]
        clear ho hb
        simp only []
        have HPX := Lib.hid (fun W => Tryz.strings_HasPrefix ⟨z.toArray⟩ ⟨#[0, 0, 0]⟩ W)
        have hpe : Lib.hasPrefix (⟨z.toArray⟩ : ByteArray).data.toList (⟨#[0, 0, 0]⟩ : ByteArray).data.toList = Lib.hasPrefix z [0, 0, 0] := rfl
        rw [hpe] at HPX
        clear hpe
        cases hx : Lib.hasPrefix z [0, 0, 0] with
        | false =>
          rw [hx] at HPX
          rw [if_neg Bool.false_ne_true]
          clear hx
          go_enter Tryz.func74, Tryz.ntmps74
          go_upto_region 1 with fail
          rw [← hwa, ← hr0]
          clear hwa hr0
          go_wp2_with (first
            | (go_at_call 98; (with_reducible refine (HRD'.out _ (Upd.refl _ _)).mono ?_); rintro e w2 ⟨rfl, hp2⟩; have P2 := Lib.hid hp2; clear hp2)
            | (go_at_call 99; (with_reducible refine (HPC.out _ P2.out).mono ?_); rintro e w3 ⟨g, rfl, ht3, hp3⟩; have T3 := Lib.hid ht3; have P3 := Lib.hid hp3; clear ht3 hp3)
            | (go_at_call 100; (with_reducible refine (HEM.out _ _ T3.out P3.out).mono ?_); rintro e w4 ⟨rfl, ht4, hp4⟩; have T4 := Lib.hid ht4; have P4 := Lib.hid hp4; obtain ⟨y0, y1, y2, f0, f1, f2⟩ := hp4.cells; clear ht4 hp4)
            | (go_at_call 101; (with_reducible refine (HDE.out _ _ T4.out P4.out).mono ?_); rintro e w5 ⟨rfl, hp5⟩; have P5 := Lib.hid hp5; obtain ⟨y0, y1, y2, f0, f1, f2⟩ := hp5.cells; clear hp5)
            | (go_at_call 102; (with_reducible refine (HOP.out _ (HTAB.out _ P5.out)).mono ?_); rintro e w6 ⟨rfl, hu6⟩; have P6 := Lib.hid (P5.out.quiet hu6); obtain ⟨y0, y1, y2, f0, f1, f2⟩ := P6.out.cells; clear hu6)
            | (go_at_call 103; (with_reducible refine (HPX.out _).mono ?_); rintro e w7 ⟨rfl, rfl⟩))
          obtain ⟨h1, h2, h3⟩ := P6.out.found _ _ _
          exact bodyPost_ret_by (ret_cell2F rfl _ _ r0 _ _ _ _ _ rfl h1 Tryz.underlying101 rfl fndInfo rfl) rfl ⟨rfl, h2, h3⟩
        | true =>
          rw [hx] at HPX
          rw [if_pos rfl]
          have h3 : 3 ≤ (⟨z.toArray⟩ : ByteArray).size := by
            have h9 : List.isPrefixOf [0, 0, 0] z = true := hx
            have := (List.isPrefixOf_iff_prefix.1 h9).length_le
            show 3 ≤ z.toArray.size
            rw [List.size_toArray]
            exact this
          have HX : Hid ((⟨z.toArray⟩ : ByteArray).extract 3 (⟨z.toArray⟩ : ByteArray).size = ⟨(z.drop 3).toArray⟩) := extr_drop ⟨z.toArray⟩ 3
          clear hx hz
          obtain ⟨zq, hzq⟩ : ∃ zq : ByteArray, ⟨z.toArray⟩ = zq := ⟨_, rfl⟩
          rw [hzq] at HX h3 HPX HOP
          clear hzq
          go_enter Tryz.func74, Tryz.ntmps74
          go_upto_region 1 with fail
          rw [← hwa, ← hr0]
          clear hwa hr0
          go_wp2_with (first
            | (go_at_call 98; (with_reducible refine (HRD'.out _ (Upd.refl _ _)).mono ?_); rintro e w2 ⟨rfl, hp2⟩; have P2 := Lib.hid hp2; clear hp2)
            | (go_at_call 99; (with_reducible refine (HPC.out _ P2.out).mono ?_); rintro e w3 ⟨g, rfl, ht3, hp3⟩; have T3 := Lib.hid ht3; have P3 := Lib.hid hp3; clear ht3 hp3)
            | (go_at_call 100; (with_reducible refine (HEM.out _ _ T3.out P3.out).mono ?_); rintro e w4 ⟨rfl, ht4, hp4⟩; have T4 := Lib.hid ht4; have P4 := Lib.hid hp4; obtain ⟨y0, y1, y2, f0, f1, f2⟩ := hp4.cells; clear ht4 hp4)
            | (go_at_call 101; (with_reducible refine (HDE.out _ _ T4.out P4.out).mono ?_); rintro e w5 ⟨rfl, hp5⟩; have P5 := Lib.hid hp5; obtain ⟨y0, y1, y2, f0, f1, f2⟩ := hp5.cells; clear hp5)
            | (go_at_call 102; (with_reducible refine (HOP.out _ (HTAB.out _ P5.out)).mono ?_); rintro e w6 ⟨rfl, hu6⟩; have P6 := Lib.hid (P5.out.quiet hu6); obtain ⟨y0, y1, y2, f0, f1, f2⟩ := P6.out.cells; clear hu6)
            | (go_at_call 103; (with_reducible refine (HPX.out _).mono ?_); rintro e w7 ⟨rfl, rfl⟩))
          obtain ⟨h1, h2, h3⟩ := P6.out.found _ _ _
          exact bodyPost_ret_by (ret_cell2F rfl _ _ r0 _ _ _ _ _ rfl h1 Tryz.underlying101 rfl fndInfo rfl) rfl ⟨by rw [HX.out]; rfl, h2, h3⟩
end Go.Proofs.YtoledgpcgjdjjaaGreatDoor

/- What stands in a written page is found; Write and Read by places; the law's look that pages speak. -/
namespace Go.Proofs.YtoledgpcgjdjjaaGreatDoor
open F
open Go.RowKit Pm Cm
set_option linter.unusedVariables false
attribute [local irreducible] openL decUp Lib.onesCount parT sealed

theorem ones255 : Lib.onesCount 255 = 8 := by decide +kernel
theorem zer_000 (l : List UInt8) : 24 ≤ zer ([0, 0, 0] ++ l) := by
  rw [zer_append, zer_cons, zer_cons, zer_cons, zer_nil]
  have h : Lib.onesCount (255 - (0 : UInt8).toNat) = 8 := ones255
  rw [h]
  omega
theorem chunk0 {k n : Nat} (h3 : 3 ≤ k) (l : List UInt8) : ∃ r, chunkL (bodyL n l) k 0 = [0, 0, 0] ++ r := by
  refine ⟨(chunkL (bodyL n l) k 0).drop 3, ?_⟩
  have h : (chunkL (bodyL n l) k 0).take 3 = [0, 0, 0] := by
    unfold chunkL bodyL
    rw [Nat.zero_mul, List.drop_zero, List.take_take, Nat.min_eq_left h3]
    have e : sealed ([0, 0, 0] ++ padL n l) = [0, 0, 0] ++ (padL n l ++ slb (ext 0 ([0, 0, 0] ++ padL n l))) := by unfold sealed; rw [List.append_assoc]
    rw [e]
    rfl
  rw [← h, List.take_append_drop]
theorem sum0 (c : Nat) : ((List.range c).map fun _ => 0).sum = 0 := by
  induction c with
  | zero => rfl
  | succ c ih => rw [List.range_succ, List.map_append, List.sum_append, ih]; rfl
theorem found_page {t k c : Nat} {b p : Int} (hG : GoodG b p c k t) (l : List UInt8) (hl : l.length ≤ c * k - 7) :
    foundL t k c (pieceL (pageL t k c l) (k + (13 * t + 7) / 8)) = ⟨1, padL (c * k - 7) l, 0⟩ := by
  obtain ⟨b1, b2, p1, p2, p4, c1, c2, k1, k2, t1, t2⟩ := hG
  have m1 : 16 ≤ c * k := by have := Nat.mul_le_mul (show 1 ≤ c by omega) (show 16 ≤ k by omega); omega
  have hb : (bodyL (c * k - 7) l).length = c * k := by rw [bodyL_length hl]; omega
  have hpc : ∀ i, i < c → pieceL (pageL t k c l) (k + (13 * t + 7) / 8) i = chunkL (bodyL (c * k - 7) l) k i ++ parT t (chunkL (bodyL (c * k - 7) l) k i) := fun i hi => rawUp_piece hb i c (Nat.le_refl _) hi
  have hf := found_turned (t := t) (k := k) (c := c) (by omega) (by omega) (by omega) (l := l) (by omega) hl (P := pieceL (pageL t k c l) (k + (13 * t + 7) / 8)) (N := fun _ => 0) (fun i hi => by rw [hpc i hi]; exact turned_none (by omega) (by omega) _) (by
    refine empUp_stop (i := 1) ?_ c (by omega)
    show (empUp t _ 0 && decide (zer _ ≤ t)) = false
    obtain ⟨r, hr⟩ := chunk0 (n := c * k - 7) (k := k) (by omega) l
    rw [hpc 0 (by omega), hr, List.append_assoc]
    have := zer_000 (r ++ parT t ([0, 0, 0] ++ r))
    rw [decide_eq_false (by omega), Bool.and_false])
  rw [hf]
  rw [sum0]
theorem pageL_size {t k c : Nat} {b p : Int} (hG : GoodG b p c k t) (l : List UInt8) (hl : l.length ≤ c * k - 7) : (⟨(pageL t k c l).toArray⟩ : ByteArray).size = rawN t k c := by
  obtain ⟨b1, b2, p1, p2, p4, c1, c2, k1, k2, t1, t2⟩ := hG
  have m1 : 16 ≤ c * k := by have := Nat.mul_le_mul (show 1 ≤ c by omega) (show 16 ≤ k by omega); omega
  have h := pageL_length (t := t) (k := k) (c := c) (l := l) (by omega) hl
  show (pageL t k c l).toArray.size = rawN t k c
  rw [List.size_toArray, h]
  rfl
theorem write_in (q : Nat) (b p : Int) (c k t : Nat) (ch bb : Nat) (pb : Nat → Nat) (M : Ch) (cc : Nat) (x y : Int) (i j n : Nat) (hx : x = (i : Int)) (hy : y = (j : Int)) (s : ByteArray) (w : World) (hG : GoodG b p c k t) (h : PgrIn w q b p c k t ch bb pb M cc) (hT : Tab w) (hs : s.size ≤ c * k - 7)
    (hF : M.Fit n) (hn : n < 4611686018427387904) (hi : i < M.nb) (hj : j < M.np) (hz : M.sz = rawN t k c) :
    Calls Tryz.prog 108 #[.pointer (some ⟨q, 0, none⟩), .int .i64 x, .int .i64 y, .string s] w fun e w' => e = .returned (.int .i64 (M.progE i j)) ∧ PgrIn w' q b p c k t ch bb pb (M.progM i j (pageL t k c s.data.toList)) cc ∧ Upd (POwn ch bb pb M.nb cc) w w' :=
  write_gen q b p c k t ch bb pb M _ cc x y _ s w hG h hT hs fun W hW =>
    program_at ch bb pb M x y i j n hx hy ⟨(pageL t k c s.data.toList).toArray⟩ (pageL t k c s.data.toList) rfl _ rfl W hW hF hn hi hj (by rw [pageL_size hG _ hs, hz])
theorem pread_in (q : Nat) (b p : Int) (c k t : Nat) (ch bb : Nat) (pb : Nat → Nat) (M : Ch) (cc : Nat) (x y : Int) (i j n : Nat) (hx : x = (i : Int)) (hy : y = (j : Int)) (w : World) (hG : GoodG b p c k t) (h : PgrIn w q b p c k t ch bb pb M cc)
    (hT : ∀ W, Upd (POwn ch bb pb M.nb cc) w W → Tab W) (hF : M.Fit n) (hn : n < 4611686018427387904) (hi : i < M.nb) (hj : j < M.np) (hz : M.sz = rawN t k c) (ho : M.off = false) (hq : M.most < 1 ∨ M.piece < 1) (hst : ((M.bk i).pg j).st ≤ 2) (hd : (((M.bk i).pg j).show M.sz).length = M.sz) :
    Calls Tryz.prog 74 #[.pointer (some ⟨q, 0, none⟩), .int .i64 x, .int .i64 y] w fun e w' => e = .returned (.tuple #[(foundL t k c (pieceL (((M.bk i).pg j).show M.sz) (k + (13 * t + 7) / 8))).val, .int .i64 0]) ∧ PgrIn w' q b p c k t ch bb pb (M.readM i) cc ∧ Upd (POwn ch bb pb M.nb cc) w w' :=
  pread_gen q b p c k t ch bb pb M (M.readM i) cc x y ⟨(((M.bk i).pg j).show M.sz).toArray⟩ w hG h (by show (((M.bk i).pg j).show M.sz).toArray.size = _; rw [List.size_toArray, hd, hz]) hT rfl fun W hW =>
    read_in ch bb pb M x y i j n hx hy _ rfl W hW hF hn hi hj (by have := rawN_pos hG; omega) ho hq hst
end Go.Proofs.YtoledgpcgjdjjaaGreatDoor

/- Plain: in how many bits two rows of bytes differ; pieces with few bits turned; words of a code lie far apart. -/
namespace Go.Proofs.YtoledgpcgjdjjaaGreatDoor
open F
open Go.RowKit Pm Cm
set_option linter.unusedVariables false
attribute [local irreducible] openL decUp Lib.onesCount parT sealed

def diffs (a b : List UInt8) (n : Nat) : List Nat := (List.range (8 * n)).filter fun q => dbit a q != dbit b q
def dif (a b : List UInt8) (n : Nat) : Nat := (diffs a b n).length
theorem filter_le {α : Type} (p q r : α → Bool) (h : ∀ x, p x = true → q x = true ∨ r x = true) : ∀ l : List α, (l.filter p).length ≤ (l.filter q).length + (l.filter r).length
  | [] => Nat.le_refl _
  | x :: l => by
    have ih := filter_le p q r h l
    rw [List.filter_cons, List.filter_cons, List.filter_cons]
    by_cases hp : p x = true
    · rw [if_pos hp]
      rcases h x hp with h1 | h1
      · rw [if_pos h1]
        split
        · simp only [List.length_cons]; omega
        · simp only [List.length_cons]; omega
      · rw [if_pos h1]
        split
        · simp only [List.length_cons]; omega
        · simp only [List.length_cons]; omega
    · rw [if_neg hp]
      split <;> split <;> first | (simp only [List.length_cons]; omega) | omega
theorem dif_tri (a b c : List UInt8) (n : Nat) : dif a c n ≤ dif a b n + dif b c n := by
  refine filter_le _ _ _ (fun q h => ?_) _
  revert h
  cases dbit a q <;> cases dbit b q <;> cases dbit c q <;> simp
theorem dif_comm (a b : List UInt8) (n : Nat) : dif a b n = dif b a n := by
  unfold dif diffs
  congr 1
  refine List.filter_congr fun q _ => ?_
  cases dbit a q <;> cases dbit b q <;> rfl
theorem pop_bits : ∀ z : Fin 256, ((List.range 8).filter fun k => z.val.testBit (7 - k)).length = pop z.val := by decide +kernel
theorem byte_bits (x y : Nat) (hx : x < 256) (hy : y < 256) : ((List.range 8).filter fun k => bb x k != bb y k).length = pop (x ^^^ y) := by
  have h := pop_bits ⟨x ^^^ y, Nat.xor_lt_two_pow (n := 8) hx hy⟩
  simp only at h
  rw [← h]
  congr 1
  refine List.filter_congr fun k _ => ?_
  unfold bb
  rw [Nat.testBit_xor]
theorem dif_is (a b : List UInt8) : ∀ n, dif a b n = unlike (fun i => (a.getD i 0).toNat) (fun i => (b.getD i 0).toNat) 0 n
  | 0 => rfl
  | n + 1 => by
    have h : diffs a b (n + 1) = diffs a b n ++ (((List.range 8).map (8 * n + ·)).filter fun q => dbit a q != dbit b q) := by
      unfold diffs
      rw [show 8 * (n + 1) = 8 * n + 8 by omega, List.range_add, List.filter_append]
    show (diffs a b (n + 1)).length = _
    rw [h, List.length_append]
    show dif a b n + _ = _
    rw [dif_is a b n, unlike, Nat.zero_add, List.filter_map, List.length_map]
    congr 1
    rw [← byte_bits _ _ (a.getD n 0).toNat_lt (b.getD n 0).toNat_lt]
    congr 1
    refine List.filter_congr fun k hk => ?_
    have hk8 := List.mem_range.1 hk
    show (dbit a (8 * n + k) != dbit b (8 * n + k)) = _
    unfold dbit
    rw [show (8 * n + k) / 8 = n by omega, show (8 * n + k) % 8 = k by omega]
theorem unlike_shift (f g : Nat → Nat) (a : Nat) : ∀ n, unlike (fun j => f (a + j)) (fun j => g (a + j)) 0 n = unlike f g a n
  | 0 => rfl
  | n + 1 => by rw [unlike, unlike, unlike_shift f g a n, Nat.zero_add]
theorem turned_of {t : Nat} (h1 : 1 ≤ t) (h8 : t ≤ 8) (s l : List UInt8) (m : Nat) (hs : s.length = l.length + (13 * t + 7) / 8) (hd : dif s (l ++ parT t l) s.length ≤ m) (hm : m ≤ t) : ∃ n, n ≤ m ∧ Turned t s l n := by
  obtain ⟨qs, hqs⟩ : ∃ qs, (diffs s (l ++ parT t l) s.length).filter (fun q => decide (q < 8 * l.length + 13 * t)) = qs := ⟨_, rfl⟩
  have hlen : qs.length ≤ m := by rw [← hqs]; exact Nat.le_trans (List.length_filter_le _ _) hd
  have hmem : ∀ q, q ∈ qs ↔ q < 8 * l.length + 13 * t ∧ (dbit s q != dbit (l ++ parT t l) q) = true := fun q => by
    rw [← hqs]
    unfold diffs
    rw [List.mem_filter, List.mem_filter, List.mem_range, decide_eq_true_eq]
    constructor
    · intro ⟨⟨_, h2⟩, h3⟩; exact ⟨h3, h2⟩
    · intro ⟨h3, h2⟩; exact ⟨⟨by omega, h2⟩, h3⟩
  have hnd : qs.Nodup := by rw [← hqs]; exact ((List.nodup_range).filter _).filter _
  have hWl : (l ++ parT t l).length = s.length := by rw [List.length_append, parT_length, hs]
  refine ⟨qs.length, hlen, qs, hnd, fun q hq => ((hmem q).1 hq).1, rfl, by omega, hs, ?_⟩
  have hds : (⟨(s.take l.length).toArray⟩ : ByteArray).size = l.length := by simp [ByteArray.size]; omega
  have hps : (⟨(s.drop l.length).toArray⟩ : ByteArray).size = (13 * t + 7) / 8 := by simp [ByteArray.size]; omega
  refine bytes_ext (by rw [wordOf_length, flips_length, hWl, hds, hps, hs]) fun q hq => ?_
  rw [wordOf_length, hds, hps] at hq
  rw [dbit_flips qs (l ++ parT t l) q hnd (fun x hx => by rw [hWl]; have := ((hmem x).1 hx).1; omega)]
  have hsplit : s.take l.length ++ s.drop l.length = s := List.take_append_drop _ _
  have htl : (s.take l.length).length = l.length := by rw [List.length_take]; omega
  have hdl : (⟨(s.take l.length).toArray⟩ : ByteArray).data.toList = s.take l.length := rfl
  have hpl : (⟨(s.drop l.length).toArray⟩ : ByteArray).data.toList = s.drop l.length := rfl
  unfold wordOf
  rw [hdl]
  by_cases c1 : q < 8 * l.length
  · rw [dbit_left _ _ _ (by rw [htl]; exact c1)]
    have e : dbit (s.take l.length) q = dbit s q := by
      conv => rhs; rw [← hsplit]
      rw [dbit_left _ _ _ (by rw [htl]; exact c1)]
    rw [e]
    have hm9 := hmem q
    by_cases hq9 : q ∈ qs
    · rw [decide_eq_true hq9]
      have := (hm9.1 hq9).2
      revert this
      cases dbit s q <;> cases dbit (l ++ parT t l) q <;> simp
    · rw [decide_eq_false hq9]
      have : ¬ (dbit s q != dbit (l ++ parT t l) q) = true := fun h => hq9 (hm9.2 ⟨by omega, h⟩)
      revert this
      cases dbit s q <;> cases dbit (l ++ parT t l) q <;> simp
  · obtain ⟨j, rfl⟩ : ∃ j, q = 8 * l.length + j := ⟨q - 8 * l.length, by omega⟩
    have e1 := dbit_right (s.take l.length) (textL (fromT ⟨(s.drop l.length).toArray⟩ (13 * t)) (⟨(s.drop l.length).toArray⟩ : ByteArray).size) j
    rw [htl] at e1
    rw [e1, dbit_textFrom _ t h8 hps, hpl]
    have e2 : dbit s (8 * l.length + j) = dbit (s.drop l.length) j := by
      have h9 := dbit_right (s.take l.length) (s.drop l.length) j
      rw [hsplit, htl] at h9
      exact h9
    rw [← e2, dbit_right l (parT t l) j]
    have hm9 := hmem (8 * l.length + j)
    rw [dbit_right l (parT t l) j] at hm9
    by_cases c2 : j < 13 * t
    · rw [decide_eq_true c2, Bool.true_and]
      by_cases hq9 : 8 * l.length + j ∈ qs
      · rw [decide_eq_true hq9]
        have := (hm9.1 hq9).2
        revert this
        cases dbit s (8 * l.length + j) <;> cases dbit (parT t l) j <;> simp
      · rw [decide_eq_false hq9]
        have : ¬ (dbit s (8 * l.length + j) != dbit (parT t l) j) = true := fun h => hq9 (hm9.2 ⟨by omega, h⟩)
        revert this
        cases dbit s (8 * l.length + j) <;> cases dbit (parT t l) j <;> simp
    · rw [decide_eq_false c2, Bool.false_and, parT_spare t h1 h8 l j (by omega)]
      have hq9 : ¬ 8 * l.length + j ∈ qs := fun h => by have := (hm9.1 h).1; omega
      rw [decide_eq_false hq9]
      rfl
end Go.Proofs.YtoledgpcgjdjjaaGreatDoor

/- Plain: words of a code lie far apart; pages with noise. -/
namespace Go.Proofs.YtoledgpcgjdjjaaGreatDoor
open F
open Go.RowKit Pm Cm
set_option linter.unusedVariables false
attribute [local irreducible] openL decUp Lib.onesCount parT sealed

theorem al_ne (n : Nat) : al n ≠ 0 := al_map_ne (ps := [n]) (al n) (by simp)
theorem piece_getD (raw : List UInt8) (s i j : Nat) (hj : j < s) : (pieceL raw s i).getD j 0 = raw.getD (i * s + j) 0 := by
  unfold pieceL
  rw [List.getD_eq_getElem?_getD, List.getD_eq_getElem?_getD, List.getElem?_take, if_pos hj, List.getElem?_drop]
theorem unlike_congr {f f' g g' : Nat → Nat} (a : Nat) : ∀ n, (∀ j, j < n → f (a + j) = f' (a + j) ∧ g (a + j) = g' (a + j)) → unlike f g a n = unlike f' g' a n
  | 0, _ => rfl
  | n + 1, h => by rw [unlike, unlike, unlike_congr a n (fun j hj => h j (by omega)), (h n (by omega)).1, (h n (by omega)).2]
theorem dif_piece (A B : List UInt8) (s i : Nat) : dif (pieceL A s i) (pieceL B s i) s = unlike (fun j => (A.getD j 0).toNat) (fun j => (B.getD j 0).toNat) (i * s) s := by
  rw [dif_is, ← unlike_shift (fun j => (A.getD j 0).toNat)]
  refine unlike_congr 0 s fun j hj => ?_
  rw [Nat.zero_add]
  exact ⟨congrArg UInt8.toNat (piece_getD A s i j hj), congrArg UInt8.toNat (piece_getD B s i j hj)⟩
end Go.Proofs.YtoledgpcgjdjjaaGreatDoor

/- Plain: pages with noise, erased pages, spoilt pages. -/
namespace Go.Proofs.YtoledgpcgjdjjaaGreatDoor
open F
open Go.RowKit Pm Cm
set_option linter.unusedVariables false
attribute [local irreducible] openL decUp Lib.onesCount parT sealed

def ffL (n : Nat) : List UInt8 := List.replicate n 255
def zzL (n : Nat) : List UInt8 := List.replicate n 0
theorem ones_xor : ∀ z : Fin 256, Lib.onesCount (255 - z.val) = pop (z.val ^^^ 255) := by decide +kernel
theorem rep_getD (n i : Nat) (x : UInt8) (h : i < n) : (List.replicate n x).getD i 0 = x := by
  rw [List.getD_eq_getElem?_getD, List.getElem?_replicate, if_pos h]; rfl
theorem zer_upto (l : List UInt8) (g : Nat → Nat) (hg : ∀ i, i < l.length → g i = 255) : ∀ i, i ≤ l.length → zer (l.take i) = unlike (fun j => (l.getD j 0).toNat) g 0 i
  | 0, _ => by rw [List.take_zero, zer_nil]; rfl
  | i + 1, hi => by
    rw [zer_take l i hi, zer_upto l g hg i (by omega), unlike, Nat.zero_add, hg i hi]
    have h := ones_xor ⟨(l.getD i 0).toNat, (l.getD i 0).toNat_lt⟩
    simp only at h
    rw [h]
theorem zer_dif (l : List UInt8) : zer l = dif l (ffL l.length) l.length := by
  have h := zer_upto l (fun i => ((ffL l.length).getD i 0).toNat) (fun i hi => by
    show ((List.replicate l.length (255 : UInt8)).getD i 0).toNat = 255
    rw [rep_getD _ _ _ hi]; rfl) l.length (Nat.le_refl _)
  rw [List.take_of_length_le (Nat.le_refl _)] at h
  rw [h, dif_is]
theorem zer_near {a b : List UInt8} {n m : Nat} (ha : a.length = n) (hb : b.length = n) (h : dif a b n ≤ m) : zer a ≤ zer b + m := by
  have h1 := dif_tri a b (ffL n) n
  have h2 := zer_dif a
  have h3 := zer_dif b
  rw [ha] at h2
  rw [hb] at h3
  omega
theorem zer_ff : ∀ n, zer (ffL n) = 0
  | 0 => zer_nil
  | n + 1 => by
    show zer (255 :: ffL n) = 0
    rw [zer_cons, zer_ff n]
    have h := ones_xor ⟨255, by decide⟩
    simp only at h
    show Lib.onesCount (255 - 255) + 0 = 0
    rw [h]; rfl
theorem zer_zz : ∀ n, zer (zzL n) = 8 * n
  | 0 => zer_nil
  | n + 1 => by
    show zer (0 :: zzL n) = 8 * (n + 1)
    rw [zer_cons, zer_zz n]
    have h := ones_xor ⟨0, by decide⟩
    simp only at h
    show Lib.onesCount (255 - 0) + 8 * n = _
    rw [h]
    show 8 + 8 * n = _
    omega
theorem pieceL_length {raw : List UInt8} {s c i : Nat} (hl : raw.length = c * s) (hi : i < c) : (pieceL raw s i).length = s := by
  have h1 : (i + 1) * s ≤ c * s := Nat.mul_le_mul_right s hi
  rw [Nat.succ_mul] at h1
  unfold pieceL
  rw [List.length_take, List.length_drop]; omega
theorem pieceL_rep (x : UInt8) {s c i : Nat} (hi : i < c) : pieceL (List.replicate (c * s) x) s i = List.replicate s x := by
  have h1 : (i + 1) * s ≤ c * s := Nat.mul_le_mul_right s hi
  rw [Nat.succ_mul] at h1
  unfold pieceL
  rw [List.drop_replicate, List.take_replicate, Nat.min_eq_left (by omega)]
theorem chunkL_rep (x : UInt8) {s c i : Nat} (hi : i < c) : chunkL (List.replicate (c * s) x) s i = List.replicate s x := pieceL_rep x hi
theorem noise_piece (most s pl c : Nat) (raw : List UInt8) (hm : 1 ≤ most) (hs : 1 ≤ s) (hl : raw.length = c * s) (i : Nat) (hi : i < c) : dif (pieceL (noisy most s pl raw) s i) (pieceL raw s i) s ≤ most := by
  have h1 : (i + 1) * s ≤ c * s := Nat.mul_le_mul_right s hi
  rw [Nat.succ_mul] at h1
  rw [dif_piece]
  have h := unlike_fold most raw.length s pl hm hs (fun i => (raw.getD i 0).toNat) (fun i => (raw.getD i 0).toNat_lt) i (pieces raw.length s) (Nat.le_refl _)
  rw [if_pos ((pieces_lt hs).2 (by omega)), show min s (raw.length - i * s) = s by omega] at h
  refine Nat.le_trans (Nat.le_of_eq (unlike_congr (i * s) s fun j hj => ⟨?_, rfl⟩)) h
  have hlen : i * s + j < (noisy most s pl raw).length := by rw [noisy_len]; omega
  have hg := noisy_get most s pl raw (i * s + j) hlen
  show ((noisy most s pl raw).getD (i * s + j) 0).toNat = noiseT most raw.length s pl (fun i => (raw.getD i 0).toNat) (i * s + j)
  rw [← hg, List.getD_eq_getElem?_getD, List.getElem?_eq_getElem hlen]
  rfl
theorem sum_le {N : Nat → Nat} {m : Nat} : ∀ c, (∀ i, i < c → N i ≤ m) → ((List.range c).map N).sum ≤ c * m
  | 0, _ => by simp
  | c + 1, h => by
    rw [List.range_succ, List.map_append, List.sum_append, Nat.succ_mul]
    have h1 := sum_le c (fun i hi => h i (by omega))
    have h2 := h c (by omega)
    show ((List.range c).map N).sum + (N c + 0) ≤ _
    omega
theorem near_turned {t k c : Nat} (h1 : 1 ≤ t) (h8 : t ≤ 8) {b : List UInt8} (hb : b.length = c * k) (P : Nat → List UInt8) (m : Nat) (hm : m ≤ t) (hl : ∀ i, i < c → (P i).length = k + (13 * t + 7) / 8)
    (hd : ∀ i, i < c → dif (P i) (chunkL b k i ++ parT t (chunkL b k i)) (k + (13 * t + 7) / 8) ≤ m) : ∃ N : Nat → Nat, (∀ i, i < c → N i ≤ m) ∧ ∀ i, i < c → Turned t (P i) (chunkL b k i) (N i) := by
  have h : ∀ i, ∃ n, i < c → n ≤ m ∧ Turned t (P i) (chunkL b k i) n := fun i => by
    by_cases hi : i < c
    · have hc := chunkL_length hb hi
      have hd' := hd i hi
      rw [← hl i hi] at hd'
      obtain ⟨n, h2, h3⟩ := turned_of h1 h8 (P i) (chunkL b k i) m (by rw [hl i hi, hc]) hd' hm
      exact ⟨n, fun _ => ⟨h2, h3⟩⟩
    · exact ⟨0, fun h => absurd h hi⟩
  exact ⟨fun i => Classical.choose (h i), fun i hi => (Classical.choose_spec (h i) hi).1, fun i hi => (Classical.choose_spec (h i) hi).2⟩
theorem empUp_no {t : Nat} {P : Nat → List UInt8} {c : Nat} (hc : 0 < c) (h : ¬ zer (P 0) ≤ t) : empUp t P c = false := by
  cases e : empUp t P c with
  | false => rfl
  | true => exact absurd ((empUp_iff c).1 e 0 hc) h
theorem found_noisy {t k c : Nat} {b p : Int} (hG : GoodG b p c k t) (l : List UInt8) (hl : l.length ≤ c * k - 7) (m pl : Nat) (hm1 : 1 ≤ m) (hm : m ≤ t) :
    ∃ n, n ≤ c * m ∧ foundL t k c (pieceL (noisy m (k + (13 * t + 7) / 8) pl (pageL t k c l)) (k + (13 * t + 7) / 8)) = ⟨1, padL (c * k - 7) l, n⟩ := by
  obtain ⟨b1, b2, p1, p2, p4, c1, c2, k1, k2, t1, t2⟩ := hG
  have m1 : 16 ≤ c * k := by have := Nat.mul_le_mul (show 1 ≤ c by omega) (show 16 ≤ k by omega); omega
  have hb : (bodyL (c * k - 7) l).length = c * k := by rw [bodyL_length hl]; omega
  have hpc : ∀ i, i < c → pieceL (pageL t k c l) (k + (13 * t + 7) / 8) i = chunkL (bodyL (c * k - 7) l) k i ++ parT t (chunkL (bodyL (c * k - 7) l) k i) := fun i hi => rawUp_piece hb i c (Nat.le_refl _) hi
  have hrl : (pageL t k c l).length = c * (k + (13 * t + 7) / 8) := pageL_length (t := t) (k := k) (c := c) (l := l) (by omega) hl
  have hnl : (noisy m (k + (13 * t + 7) / 8) pl (pageL t k c l)).length = c * (k + (13 * t + 7) / 8) := by rw [noisy_len, hrl]
  have hnp := fun i hi => noise_piece m (k + (13 * t + 7) / 8) pl c (pageL t k c l) hm1 (by omega) hrl i hi
  obtain ⟨N, hN1, hN2⟩ := near_turned (t := t) (k := k) (c := c) (by omega) (by omega) hb (pieceL (noisy m (k + (13 * t + 7) / 8) pl (pageL t k c l)) (k + (13 * t + 7) / 8)) m hm (fun i hi => pieceL_length hnl hi) (fun i hi => by rw [← hpc i hi]; exact hnp i hi)
  refine ⟨_, sum_le c hN1, ?_⟩
  refine found_turned (t := t) (k := k) (c := c) (by omega) (by omega) (by omega) (l := l) (by omega) hl hN2 ?_
  refine empUp_no (by omega) ?_
  obtain ⟨r, hr⟩ := chunk0 (n := c * k - 7) (k := k) (by omega) l
  have h0 := hnp 0 (by omega)
  have hz := zer_near (pieceL_length hrl (show 0 < c by omega)) (pieceL_length hnl (show 0 < c by omega)) (by rw [dif_comm]; exact h0)
  rw [hpc 0 (by omega), hr, List.append_assoc] at hz
  have := zer_000 (r ++ parT t ([0, 0, 0] ++ r))
  omega
def run0 : Nat → Nat → Bool
  | 0, _ => true
  | n + 1, r => nxt r 0 != ones && run0 n (nxt r 0)
theorem run0_ok : run0 1020 ones = true := by decide +kernel
theorem run0_is : ∀ (n r : Nat), run0 n r = true → ∀ m, 1 ≤ m → m ≤ n → reg r (List.replicate m 0) ≠ ones
  | 0, _, _, m, h1, h2 => by omega
  | n + 1, r, h, m, h1, h2 => by
    rw [run0, Bool.and_eq_true] at h
    obtain ⟨m', rfl⟩ : ∃ m', m = m' + 1 := ⟨m - 1, by omega⟩
    rw [List.replicate_succ, reg_cons]
    by_cases e : m' = 0
    · subst e
      rw [List.replicate_zero, reg_nil]
      exact bne_iff_ne.1 h.1
    · exact run0_is n _ h.2 m' (by omega) (by omega)
theorem open_zz (n : Nat) (h1 : 5 ≤ n) (h2 : n ≤ 1024) : openL (zzL n) = none := by
  cases h : openL (zzL n) with
  | none => rfl
  | some x =>
    exfalso
    have he := openL_some h
    have hl : x.length + 4 = n := by
      have := congrArg List.length he
      rw [sealed_length] at this
      have h3 : (zzL n).length = n := List.length_replicate ..
      omega
    have hsp : zzL n = List.replicate x.length 0 ++ List.replicate 4 0 := by
      unfold zzL; rw [← hl, List.replicate_append_replicate]
    unfold sealed at he
    rw [hsp] at he
    obtain ⟨e1, e2⟩ := List.append_inj he (List.length_replicate ..)
    have hw := word_seal (ext_lt x (c := 0) (by decide))
    rw [← e2] at hw
    have h0 : ext 0 x = 0 := by rw [← hw]; rfl
    rw [ext0] at h0
    have h4 := congrArg (· ^^^ ones) h0
    simp only [ones_ones, Nat.zero_xor] at h4
    rw [← e1] at h4
    exact run0_is 1020 ones run0_ok x.length (by omega) (by omega) h4
theorem xor_zz (l : List UInt8) : List.zipWith (· ^^^ ·) l l = zzL l.length := by
  induction l with
  | nil => rfl
  | cons a l ih =>
    show (a ^^^ a) :: List.zipWith (· ^^^ ·) l l = 0 :: zzL l.length
    rw [ih, UInt8.xor_self]
theorem parT_zz (t k : Nat) (h1 : 1 ≤ t) (h8 : t ≤ 8) : parT t (zzL k) = zzL ((13 * t + 7) / 8) := by
  have h := parT_lin t h1 h8 (zzL k) (zzL k) rfl
  rw [xor_zz, xor_zz, parT_length] at h
  have hl : (zzL k).length = k := List.length_replicate ..
  rw [hl] at h
  exact h
theorem found_spoilt {t k c : Nat} {b p : Int} (hG : GoodG b p c k t) (m pl : Nat) (hm1 : 1 ≤ m) (hm : m ≤ t) :
    foundL t k c (pieceL (noisy m (k + (13 * t + 7) / 8) pl (zzL (c * (k + (13 * t + 7) / 8)))) (k + (13 * t + 7) / 8)) = ⟨2, [], 0⟩ := by
  obtain ⟨b1, b2, p1, p2, p4, c1, c2, k1, k2, t1, t2⟩ := hG
  have m1 : 16 ≤ c * k := by have := Nat.mul_le_mul (show 1 ≤ c by omega) (show 16 ≤ k by omega); omega
  have m2 : c * k ≤ 1024 := Nat.mul_le_mul (show c ≤ 4 by omega) (show k ≤ 256 by omega)
  have hb : (zzL (c * k)).length = c * k := List.length_replicate ..
  have hrl : (zzL (c * (k + (13 * t + 7) / 8))).length = c * (k + (13 * t + 7) / 8) := List.length_replicate ..
  have hnl : (noisy m (k + (13 * t + 7) / 8) pl (zzL (c * (k + (13 * t + 7) / 8)))).length = c * (k + (13 * t + 7) / 8) := by rw [noisy_len, hrl]
  have hpz : ∀ i, i < c → pieceL (zzL (c * (k + (13 * t + 7) / 8))) (k + (13 * t + 7) / 8) i = zzL (k + (13 * t + 7) / 8) := fun i hi => pieceL_rep 0 hi
  have hcz : ∀ i, i < c → chunkL (zzL (c * k)) k i ++ parT t (chunkL (zzL (c * k)) k i) = zzL (k + (13 * t + 7) / 8) := fun i hi => by
    rw [show chunkL (zzL (c * k)) k i = zzL k from chunkL_rep 0 hi, parT_zz t k (by omega) (by omega)]
    unfold zzL; rw [List.replicate_append_replicate]
  have hnp := fun i hi => noise_piece m (k + (13 * t + 7) / 8) pl c (zzL (c * (k + (13 * t + 7) / 8))) hm1 (by omega) hrl i hi
  obtain ⟨N, hN1, hN2⟩ := near_turned (t := t) (k := k) (c := c) (by omega) (by omega) hb (pieceL (noisy m (k + (13 * t + 7) / 8) pl (zzL (c * (k + (13 * t + 7) / 8)))) (k + (13 * t + 7) / 8)) m hm (fun i hi => pieceL_length hnl hi) (fun i hi => by rw [hcz i hi, ← hpz i hi]; exact hnp i hi)
  have hd := decUp_turned (t := t) (k := k) (c := c) (by omega) (by omega) (by omega) hb hN2 c (Nat.le_refl _)
  rw [List.take_of_length_le (Nat.le_of_eq hb)] at hd
  have he : empUp t (pieceL (noisy m (k + (13 * t + 7) / 8) pl (zzL (c * (k + (13 * t + 7) / 8)))) (k + (13 * t + 7) / 8)) c = false := by
    refine empUp_no (by omega) ?_
    have h0 := hnp 0 (by omega)
    have hz := zer_near (pieceL_length hrl (show 0 < c by omega)) (pieceL_length hnl (show 0 < c by omega)) (by rw [dif_comm]; exact h0)
    rw [hpz 0 (by omega), zer_zz] at hz
    omega
  unfold foundL
  rw [if_neg (by rw [he]; exact Bool.false_ne_true), hd]
  simp only [open_zz (c * k) (by omega) m2]
end Go.Proofs.YtoledgpcgjdjjaaGreatDoor

/- The law's look that pages speak. -/
namespace Go.Proofs.YtoledgpcgjdjjaaGreatDoor
open F
open Go.RowKit Pm Cm
set_option linter.unusedVariables false
attribute [local irreducible] openL decUp Lib.onesCount parT sealed

theorem blank_new (np p : Nat) : blankFrom newBk np p = true := by
  unfold blankFrom
  rw [List.all_eq_true]
  intro k _
  show (decide (k < p) || (0 == 0 && !false)) = true
  simp
def m1C (nb np sz i j : Nat) (l : List UInt8) : Ch := (newCh nb np sz).progM i j l
theorem m1_eq (nb np sz i j : Nat) (l : List UInt8) : m1C nb np sz i j l = (newCh nb np sz).changed.setBk i (newBk.setPg j ⟨1, false, l⟩) := by
  unfold m1C Ch.progM
  rw [if_neg (show ¬ (newCh nb np sz).off = true from Bool.false_ne_true), if_neg (show ¬ ((newCh nb np sz).bk i).worn = true from Bool.false_ne_true), if_pos (show blankFrom ((newCh nb np sz).bk i) (newCh nb np sz).np j = true from blank_new np j), if_neg (show ¬ (newCh nb np sz).torn = true from Bool.false_ne_true)]
  rfl
theorem m1_pg (nb np sz i j : Nat) (l : List UInt8) : ((m1C nb np sz i j l).bk i).pg j = ⟨1, false, l⟩ := by
  rw [m1_eq]
  show (if i = i then newBk.setPg j ⟨1, false, l⟩ else _).pg j = _
  rw [if_pos rfl]
  show (if j = j then _ else _) = _
  rw [if_pos rfl]
theorem m1_fit (nb np sz i j : Nat) (l : List UInt8) : (m1C nb np sz i j l).Fit 1 := (newCh_fit nb np sz).prog i j l
theorem m1_shape (nb np sz i j : Nat) (l : List UInt8) : (m1C nb np sz i j l).nb = nb ∧ (m1C nb np sz i j l).np = np ∧ (m1C nb np sz i j l).sz = sz ∧ (m1C nb np sz i j l).off = false ∧ (m1C nb np sz i j l).most < 1 := by
  rw [m1_eq]
  exact ⟨rfl, rfl, rfl, rfl, by show (0 : Int) < 1; omega⟩
theorem upd_all {w W W' : World} {R : Nat → Prop} (h : Upd noBlock w W) (hu : Upd R W W') (hR : ∀ i, R i → w.heap.size ≤ i) : Upd noBlock w W' :=
  h.step hu fun i hi e => absurd (hR i e) (by omega)
structure PN (w : World) (q : Nat) (b p : Int) (c k t : Nat) (ch bb : Nat) (pb : Nat → Nat) (M : Ch) (cc : Nat) (W : World) : Prop where
  i : PgrIn W q b p c k t ch bb pb M cc
  u : Upd noBlock w W
  o : ∀ i, POwn ch bb pb M.nb cc i → w.heap.size ≤ i
theorem PN.upd {w W W' : World} {q : Nat} {b p : Int} {c k t : Nat} {ch bb : Nat} {pb : Nat → Nat} {M M' : Ch} {cc : Nat} (h : PN w q b p c k t ch bb pb M cc W) (hi : PgrIn W' q b p c k t ch bb pb M' cc) (hu : Upd (POwn ch bb pb M.nb cc) W W') (hn : M'.nb = M.nb) : PN w q b p c k t ch bb pb M' cc W' :=
  ⟨hi, upd_all h.u hu h.o, by rw [hn]; exact h.o⟩
theorem PN.quiet {w W W' : World} {q : Nat} {b p : Int} {c k t : Nat} {ch bb : Nat} {pb : Nat → Nat} {M : Ch} {cc : Nat} (h : PN w q b p c k t ch bb pb M cc W) (hu : Upd noBlock W W') : PN w q b p c k t ch bb pb M cc W' := ⟨h.i.keep hu, h.u.trans hu, h.o⟩
theorem PN.tab {w W : World} {q : Nat} {b p : Int} {c k t : Nat} {ch bb : Nat} {pb : Nat → Nat} {M : Ch} {cc : Nat} (h : PN w q b p c k t ch bb pb M cc W) (hT : Tab w) : ∀ W', Upd (POwn ch bb pb M.nb cc) W W' → Tab W' := fun W' hu => hT.upd (upd_all h.u hu h.o)
end Go.Proofs.YtoledgpcgjdjjaaGreatDoor

/- PageNil. -/
namespace Go.Proofs.YtoledgpcgjdjjaaGreatDoor
open F
open Go.RowKit Pm Cm
set_option linter.unusedVariables false
attribute [local irreducible] openL decUp Lib.onesCount parT sealed

theorem found_block (w : World) (g : Nat) (x y z : Value) (T : TypeId) (u v s : Value) (h : w.heap[g]? = some (.cells #[u, v, s] T (0, 0))) :
    (((w.setCell ⟨g, 0, none⟩ x).setCell ⟨g, 1, none⟩ y).setCell ⟨g, 2, none⟩ z).heap[g]? = some (.cells #[x, y, z] T (0, 0)) := block_set (block_set (block_set h x) y) z
end Go.Proofs.YtoledgpcgjdjjaaGreatDoor

/- The law's geometry; PageSizes. -/
namespace Go.Proofs.YtoledgpcgjdjjaaGreatDoor
open F
open Go.RowKit Pm Cm
set_option linter.unusedVariables false
attribute [local irreducible] openL decUp Lib.onesCount parT sealed

end Go.Proofs.YtoledgpcgjdjjaaGreatDoor

/- The document's Page. -/
namespace Go.Proofs.YtoledgpcgjdjjaaGreatDoor
open F
open Go.RowKit Pm Cm
set_option linter.unusedVariables false
attribute [local irreducible] openL decUp Lib.onesCount parT sealed rawUp bodyL

def lenOf : Value → Nat
  | .slice _ n _ => n
  | _ => 0
end Go.Proofs.YtoledgpcgjdjjaaGreatDoor
