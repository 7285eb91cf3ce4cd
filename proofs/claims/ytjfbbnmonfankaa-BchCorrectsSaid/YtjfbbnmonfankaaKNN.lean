/- BchSpare, walked. -/
import Derived.Test.YtjfbbnmonfankaaKNM
import Derived.DataShut
namespace Go.Proofs.Ytjfbbnmonfankaa
open F
open Go.RowKit Pm
set_option linter.unusedVariables false

theorem ofInt_u8 (a : Nat) (ha : a < 256) : (BitVec.ofInt 8 (a : Int)).toNat = a := by
  rw [BitVec.toNat_ofInt]
  show (((a : Int) % ((256 : Nat) : Int))).toNat = a
  omega
theorem wrap_u8_nat (a : Nat) (ha : a < 256) : IntKind.u8.wrap (a : Int) = (a : Int) := by
  show ((a : Int) % 256) = _
  omega
theorem u8_and_n (a b : Nat) (ha : a < 256) (hb : b < 256) : bits .and .u8 (a : Int) (b : Int) = ((a &&& b : Nat) : Int) := by
  have hx : a &&& b < 2 ^ 8 := Nat.and_lt_two_pow _ hb
  show IntKind.u8.wrap (((BitVec.ofInt 8 (a : Int) &&& BitVec.ofInt 8 (b : Int)).toNat : Nat) : Int) = _
  rw [BitVec.toNat_and, ofInt_u8 a ha, ofInt_u8 b hb]
  exact wrap_u8_nat _ hx
theorem u8_xor_n (a b : Nat) (ha : a < 256) (hb : b < 256) : bits .xor .u8 (a : Int) (b : Int) = ((a ^^^ b : Nat) : Int) := by
  have hx : a ^^^ b < 2 ^ 8 := Nat.xor_lt_two_pow ha hb
  show IntKind.u8.wrap (((BitVec.ofInt 8 (a : Int) ^^^ BitVec.ofInt 8 (b : Int)).toNat : Nat) : Int) = _
  rw [BitVec.toNat_xor, ofInt_u8 a ha, ofInt_u8 b hb]
  exact wrap_u8_nat _ hx
theorem shr_255 (r : Nat) : (255 : Int) / 2 ^ r = ((255 / 2 ^ r : Nat) : Int) := by
  rw [Int.natCast_ediv]; simp
theorem spare_small (sp r : Nat) (hr : r < 8) : sp &&& (255 / 2 ^ r) < 2 ^ (8 - r) := by
  refine Nat.lt_of_le_of_lt Nat.and_le_right ?_
  rw [Nat.div_lt_iff_lt_mul (Nat.two_pow_pos r), ← Nat.pow_add, show 8 - r + r = 8 by omega]
  omega
theorem spare_row {w : World} {g n n1 : Nat} {P : List UInt8} {m : Nat} (h : ByteRow w g n 5 (fun j => (P.getD j 0).toNat)) (hP : P.length = n) (h1 : n1 < n) (hm : m < 256) :
    ByteRow (w.setCell ⟨g, n1, none⟩ (.int .u8 (((P.getD n1 0).toNat ^^^ m : Nat) : Int))) g n 5 (fun j => ((P.set n1 (P.getD n1 0 ^^^ UInt8.ofNat m)).getD j 0).toNat) := by
  refine (h.set n1 _).congr fun j hj => ?_
  by_cases e : j = n1
  · rw [if_pos e, e, List.getD_eq_getElem?_getD (l := P.set _ _), List.getElem?_set_self (by omega), Option.getD_some, UInt8.toNat_xor, UInt8.toNat_ofNat', Nat.mod_eq_of_lt (show m < 2 ^ 8 from hm)]
  · rw [if_neg e, List.getD_eq_getElem?_getD (l := P.set _ _), List.getElem?_set_ne (fun h => e h.symm), ← List.getD_eq_getElem?_getD]
theorem Made.far {w0 w1 w : World} {c t g : Nat} {k : Int} (h : Made w0 c t k) (h1 : Upd noBlock w0 w1) (hg : w0.heap.size ≤ g) (h2 : Upd (oneBlock g) w1 w) : Made w c t k :=
  (((h.bound _ (Nat.le_refl _)).grow h1).keep h2 (fun i hi e => by have e' : i = g := e; omega)).made
/-- the spare bits of a parity changed -/
def spared (t : Nat) (P : List UInt8) (m : Nat) : List UInt8 := P.set ((13 * t + 7) / 8 - 1) (P.getD ((13 * t + 7) / 8 - 1) 0 ^^^ UInt8.ofNat m)
theorem spared_length (t : Nat) (P : List UInt8) (m : Nat) : (spared t P m).length = P.length := List.length_set
theorem dbit_spared (t : Nat) (h1 : 1 ≤ t) (P : List UInt8) (hP : P.length = (13 * t + 7) / 8) (m : Nat) (hr : 13 * t % 8 ≠ 0) (hm : m < 2 ^ (8 - 13 * t % 8)) (j : Nat) (hj : j < 13 * t) : dbit (spared t P m) j = dbit P j := by
  unfold dbit spared
  by_cases h : j / 8 = (13 * t + 7) / 8 - 1
  · have hm8 : m < 256 := Nat.lt_of_lt_of_le hm (show 2 ^ (8 - 13 * t % 8) ≤ 2 ^ 8 from Nat.pow_le_pow_right (by omega) (by omega))
    rw [h, List.getD_eq_getElem?_getD, List.getElem?_set_self (by omega), Option.getD_some, UInt8.toNat_xor, UInt8.toNat_ofNat', Nat.mod_eq_of_lt (show m < 2 ^ 8 from hm8)]
    unfold bb
    rw [Nat.testBit_xor, Nat.testBit_lt_two_pow (x := m) (i := 7 - j % 8) (Nat.lt_of_lt_of_le hm (Nat.pow_le_pow_right (by omega) (by omega))), Bool.xor_false]
  · rw [List.getD_eq_getElem?_getD, List.getElem?_set_ne (fun e => h e.symm), ← List.getD_eq_getElem?_getD]
theorem word_spared (t : Nat) (h1 : 1 ≤ t) (h8 : t ≤ 8) (data q : ByteArray) (hq : q.size = (13 * t + 7) / 8) (hb : ∀ j, j < 13 * t → dbit q.data.toList j = dbit (parT t data.data.toList) j) : wordOf t data q = data.data.toList ++ parT t data.data.toList := by
  unfold wordOf
  congr 1
  refine bytes_ext (by rw [textL_length, parT_length, hq]) fun j _ => ?_
  rw [dbit_textFrom q t h8 hq]
  by_cases hj : j < 13 * t
  · rw [decide_eq_true hj, Bool.true_and, hb j hj]
  · rw [decide_eq_false hj, Bool.false_and, parT_spare t h1 h8 _ j (by omega)]
/-- decoding what has its spare bits changed -/
theorem decode_spared (c t k : Nat) (data q : ByteArray) (w : World) (h : CodeP w c t (k : Int)) (h1 : 1 ≤ t) (h8 : t ≤ 8) (hk1 : 1 ≤ k) (hk : k ≤ 256) (hd : data.size = k) (hq : q.size = (13 * t + 7) / 8)
    (hb : ∀ j, j < 13 * t → dbit q.data.toList j = dbit (parT t data.data.toList) j) :
    Calls Try.prog 16 #[.pointer (some ⟨c, 0, none⟩), .string data, .string q] w fun e w' => e = .returned (.tuple #[.string data, .string ⟨(parT t data.data.toList).toArray⟩, .int .i64 0, .bool true]) ∧ Made w' c t (k : Int) ∧ Upd (oneBlock c) w w' :=
  (decode_eq c t k data q w h h1 h8 hk1 hk hd hq).mono fun e w' ⟨he, hm, hu⟩ => by
    have hl : data.data.toList.length = k := hd
    have h9 := decAns_flips t h1 h8 data.data.toList (by omega) [] List.nodup_nil (fun q h => by cases h) data q rfl hq (word_spared t h1 h8 data q hq hb) (Nat.zero_le _)
    rw [hl] at h9
    rw [he, h9]
    exact ⟨rfl, hm, hu⟩
set_option maxRecDepth 100000 in
set_option maxHeartbeats 1600000 in
theorem bchSpare_off (t : Int) (data : ByteArray) (sp : Int) (w : World) (hs : data.size ≤ maxLen) (h : t < 1 ∨ 8 < t ∨ (data.size : Int) < 1 ∨ 256 < (data.size : Int)) :
    Calls Try.prog 6 #[.int .i64 t, .string data, .int .u8 sp] w fun e w' => e = .returned (.bool true) ∧ Upd noBlock w w' := by
  have hnot : ∀ (x : Bool) (w : World), (Op.unary .not (.bool x)).run Try.prog w = .ok (.bool (!x)) w := fun _ _ => rfl
  have HS := Lib.hid (fun W => speaks_any W)
  have HO := Lib.hid (fun W => settings_no t (data.size : Int) W h)
  unfold maxLen at hs
  clear h
  go_enter Try.func6, Try.ntmps6
  go_upto_region 2 with (first
    | (go_at_call 8; (with_reducible refine (HS.out _).mono ?_); rintro e w1 ⟨rfl, hu1⟩; have U1 := Lib.hid hu1; clear hu1)
    | (go_at_call 10; (with_reducible refine (HO.out _).mono ?_); rintro e w3 ⟨rfl, rfl⟩))
  go_wp2_with (go_at_call 8; (with_reducible refine (HS.out _).mono ?_); rintro e w4 ⟨rfl, hu4⟩; have U4 := Lib.hid (U1.out.trans hu4); clear hu4)
  go_ret
  exact ⟨rfl, U4.out⟩
/-- the program's calls in these laws -/
theorem law_calls (t k : Nat) (h1 : 1 ≤ t) (h2 : t ≤ 8) (h3 : 1 ≤ k) (h4 : k ≤ 256) :
    (∀ W, Calls Try.prog 9 #[.int .i64 (t : Int), .int .i64 (k : Int)] W fun e w' => e = .returned (.tuple #[.pointer (some ⟨W.heap.size, 0, none⟩), .int .i64 0]) ∧ CodeP w' W.heap.size t (k : Int) ∧ Upd noBlock W w') ∧
    (∀ c W (s : ByteArray), s.size = k → CodeP W c t (k : Int) → Calls Try.prog 11 #[.pointer (some ⟨c, 0, none⟩), .string s] W fun e w' => e = .returned (.tuple #[.string ⟨(parT t s.data.toList).toArray⟩, .int .i64 0]) ∧ Made w' c t (k : Int) ∧ Upd (oneBlock c) W w') ∧
    (∀ W, Calls Try.prog 10 #[.int .i64 (t : Int), .int .i64 (k : Int)] W fun e w' => e = .returned (.bool true) ∧ w' = W) ∧
    (∀ W, Calls Try.prog 12 #[.int .i64 (t : Int)] W fun e w' => e = .returned (.int .i64 ((13 * t : Nat) : Int)) ∧ Upd noBlock W w') :=
  ⟨fun W => (new_any t k W h1 h2 h3 h4).mono fun e w' ⟨h1, h2, h3⟩ => ⟨h1, .inl h2, h3⟩,
   fun c W s hs h => (encode_any c t k s W h h1 h2 (by unfold maxLen; omega) hs).mono fun e w' ⟨h1, h2, h3, _⟩ => ⟨h1, h2, h3⟩,
   fun W => settings_yes t k W h1 h2 h3 h4, fun W => refDegree_any t W h1 h2⟩
theorem upd_new {w w1 w2 : World} (h1 : Upd noBlock w w1) (h2 : Upd (oneBlock w.heap.size) w1 w2) : Upd noBlock w w2 := h1.step h2 fun k hk e => absurd hk (by rw [e]; exact Nat.lt_irrefl _)
theorem upd_one_new {w w1 w2 : World} {g : Nat} (h1 : Upd noBlock w w1) (hg : w.heap.size ≤ g) (h2 : Upd (oneBlock g) w1 w2) : Upd noBlock w w2 := h1.step h2 fun k hk e => absurd hk (by rw [e]; omega)
set_option maxRecDepth 100000 in
set_option maxHeartbeats 3200000 in
theorem bchSpare_on (t k : Nat) (data : ByteArray) (sp : Nat) (w : World) (hd : data.size = k) (h1 : 1 ≤ t) (h2 : t ≤ 8) (h3 : 1 ≤ k) (h4 : k ≤ 256) (hsp : sp < 256) :
    Calls Try.prog 6 #[.int .i64 (t : Int), .string data, .int .u8 (sp : Int)] w fun e w' => e = .returned (.bool true) ∧ Upd noBlock w w' := by
  have hnot : ∀ (x : Bool) (w : World), (Op.unary .not (.bool x)).run Try.prog w = .ok (.bool (!x)) w := fun _ _ => rfl
  have HS := Lib.hid (fun W => speaks_any W)
  obtain ⟨hN, hE, hO, hD⟩ := law_calls t k h1 h2 h3 h4
  have HN := Lib.hid hN
  have HE := Lib.hid (fun c W h => hE c W data hd h)
  have HO := Lib.hid hO
  have HD := Lib.hid hD
  have HNIL := Lib.hid (fun W => encode_nil data W)
  obtain ⟨n, hn⟩ : ∃ n, (13 * t + 7) / 8 = n := ⟨_, rfl⟩
  obtain ⟨r, hr⟩ : ∃ r, 13 * t % 8 = r := ⟨_, rfl⟩
  obtain ⟨P, hP⟩ : ∃ P, parT t data.data.toList = P := ⟨_, rfl⟩
  have hPl : P.length = n := by rw [← hP, parT_length, hn]
  have HDEC : Hid (∀ c W (q : ByteArray), CodeP W c t (k : Int) → q.size = n → (∀ j, j < 13 * t → dbit q.data.toList j = dbit P j) → Calls Try.prog 16 #[.pointer (some ⟨c, 0, none⟩), .string data, .string q] W fun e w' => e = .returned (.tuple #[.string data, .string ⟨P.toArray⟩, .int .i64 0, .bool true]) ∧ Made w' c t (k : Int) ∧ Upd (oneBlock c) W w') := fun c W q h hq hb => by
    have h9 := decode_spared c t k data q W h h1 h2 h3 h4 hd (by rw [hq, hn]) (by rw [hP]; exact hb)
    rw [hP] at h9
    exact h9
  have HSPB : Hid (r ≠ 0 → ∀ m, m < 2 ^ (8 - r) → ∀ j, j < 13 * t → dbit (spared t P m) j = dbit P j) := fun h0 m hm j hj => dbit_spared t h1 P (by rw [hPl, hn]) m (by rw [hr]; exact h0) (by rw [hr]; exact hm) j hj
  have HSPD : Hid (∀ m, spared t P m = P.set (n - 1) (P.getD (n - 1) 0 ^^^ UInt8.ofNat m)) := fun m => by unfold spared; rw [hn]
  obtain ⟨d, hdd⟩ : ∃ d, 13 * t = d := ⟨_, rfl⟩
  rw [hP] at HE
  rw [hdd] at HD HDEC HSPB hr hn
  have hd104 : d ≤ 104 := by omega
  have hn1 : 1 ≤ n := by omega
  have hn13 : n ≤ 13 := by omega
  have hr8 : r < 8 := by omega
  have hrd : (d : Int) % 8 = (r : Int) := by omega
  have hkd : (data.size : Int) = (k : Int) := by omega
  have hq0 : (⟨P.toArray⟩ : ByteArray).data.toList = P := rfl
  obtain ⟨p, hp⟩ : ∃ p : ByteArray, ⟨P.toArray⟩ = p := ⟨_, rfl⟩
  rw [hp] at hq0 HE HDEC
  have hpz : p.size = n := by have : p.data.toList.length = p.size := rfl; rw [hq0] at this; omega
  have HP0 := Lib.hid hq0
  obtain ⟨CW, CC, hconv, hcu, hcb⟩ := conv_row (P := Try.prog) 9 43 5 Try.underlying9 Try.underlying43 Try.underlying5 p (by rw [hpz]; unfold maxLen; omega)
  rw [hpz] at hconv hcb
  have ed : (data.toList == data.toList) = true := by simp
  have ep : (p.toList == p.toList) = true := by simp
  have hemp : (⟨#[]⟩ : ByteArray).toList.isEmpty = true := by rw [Lib.toList_data]; rfl
  have hdz : data.size ≤ 9223372036854775807 := by omega
  have HPL := Lib.hid hPl
  clear hp hpz hq0 hN hE hO hD hP hdd hn hr hd hPl
  go_enter Try.func6, Try.ntmps6
  go_upto_region 6 with (first
    | (go_at_call 8; (with_reducible refine (HS.out _).mono ?_); rintro e w1 ⟨rfl, hu1⟩; have U1 := Lib.hid hu1; clear hu1)
    | (go_at_call 10; (with_reducible refine (HO.out _).mono ?_); rintro e w3 ⟨rfl, rfl⟩)
    | (go_at_call 9; (with_reducible refine (HN.out _).mono ?_); rintro e w2 ⟨rfl, hr2, hu2⟩; have R2 := Lib.hid hr2; have U2 := Lib.hid hu2; clear hr2 hu2)
    | (go_at_call 11; (with_reducible refine (HE.out _ _ R2.out).mono ?_); rintro e w4 ⟨rfl, hr4, hu4⟩; have R4 := Lib.hid hr4; have U4 := Lib.hid (U1.out.trans (upd_new U2.out hu4)); clear hr4 hu4))
  obtain ⟨wb, hwb⟩ : ∃ wb, wb = CW w4 := ⟨_, rfl⟩
  obtain ⟨gb, hgb⟩ : ∃ gb, gb = w4.heap.size := ⟨_, rfl⟩
  obtain ⟨cc, hcc⟩ : ∃ cc, cc = CC w4 := ⟨_, rfl⟩
  have UB : Hid (Upd noBlock w4 wb) := by rw [hwb]; exact hcu.out _
  have hB1 := hcb.out w4
  rw [← hwb, ← hgb, ← hcc] at hB1
  have hkc : n ≤ cc := bs_cap hB1
  have BB := Lib.hid (bs_row hB1)
  rw [HP0.out, HPL.out] at BB
  have HG4 : Hid (w4.heap.size ≤ gb) := by rw [hgb]; exact Nat.le_refl _
  rw [← hwb, ← hgb, ← hcc]
  clear hwb hgb hcc hconv hcu hcb hB1
  by_cases hr0 : r = 0
  · subst hr0
    have HPT : Hid ((⟨((P.drop 0).take n).toArray⟩ : ByteArray) = p) := by
      show _ = _
      rw [List.drop_zero, List.take_of_length_le (by rw [HPL.out]; exact Nat.le_refl _)]
      exact ByteArray.ext (Array.ext' HP0.out.symm)
    have HPZ : Hid (p.size = n) := by have h9 : p.data.toList.length = p.size := rfl; rw [HP0.out, HPL.out] at h9; exact h9.symm
    clear HSPB HSPD
    go_wp2_with (first
      | (go_at_call 12; (with_reducible refine (HD.out _).mono ?_); rintro e w5 ⟨rfl, hu5⟩; have R5 := Lib.hid ((R4.out.keep UB.out).keep hu5); have U5 := Lib.hid ((U4.out.trans UB.out).trans hu5); have hcv := row_text (w := w5) (BB.out.grow hu5) 0 n cc HPL.out (by omega); rw [HPT.out] at hcv; clear hu5)
      | (go_at_call 16; (with_reducible refine (HDEC.out _ _ _ R5.out.code HPZ.out (fun j _ => by rw [HP0.out])).mono ?_); rintro e w6 ⟨rfl, hr6, hu6⟩; have U6 := Lib.hid (upd_one_new U5.out U1.out.size hu6); clear hr6 hu6)
      | (go_at_call 11; (with_reducible refine (HNIL.out _).mono ?_); rintro e w7 ⟨rfl, hu7⟩; have U7 := Lib.hid (U6.out.trans hu7); clear hu7))
    go_ret
    exact ⟨rfl, U7.out⟩
  · obtain ⟨n1, hn1e⟩ : ∃ n1, n - 1 = n1 := ⟨_, rfl⟩
    have hn1n : n1 < n := by omega
    obtain ⟨y, hy⟩ : ∃ y, 255 / 2 ^ r = y := ⟨_, rfl⟩
    have hyl : y < 256 := by rw [← hy]; exact Nat.lt_of_le_of_lt (Nat.div_le_self _ _) (by omega)
    have hsh := shr_255 r
    rw [hy] at hsh
    obtain ⟨m, hm⟩ : ∃ m, sp &&& y = m := ⟨_, rfl⟩
    have hml : m < 2 ^ (8 - r) := by rw [← hm, ← hy]; exact spare_small sp r hr8
    have hm256 : m < 256 := Nat.lt_of_lt_of_le hml (show 2 ^ (8 - r) ≤ 2 ^ 8 from Nat.pow_le_pow_right (by omega) (by omega))
    have hand := u8_and_n sp y hsp hyl
    rw [hm] at hand
    obtain ⟨o, ho⟩ : ∃ o, (P.getD n1 0).toNat = o := ⟨_, rfl⟩
    have ho8 : o < 256 := by rw [← ho]; exact (P.getD n1 0).toNat_lt
    have hxr := u8_xor_n o m ho8 hm256
    obtain ⟨q, hq⟩ : ∃ q : ByteArray, q = ⟨(spared t P m).toArray⟩ := ⟨_, rfl⟩
    have hqd : q.data.toList = spared t P m := by rw [hq]
    have HQZ : Hid (q.size = n) := by have h9 : q.data.toList.length = q.size := rfl; rw [hqd, spared_length, HPL.out] at h9; exact h9.symm
    have HQB : Hid (∀ j, j < d → dbit q.data.toList j = dbit P j) := by rw [hqd]; exact HSPB.out hr0 m hml
    have HQT : Hid ((⟨((spared t P m).drop 0).take n |>.toArray⟩ : ByteArray) = q) := by
      show _ = _
      rw [List.drop_zero, List.take_of_length_le (by rw [spared_length, HPL.out]; exact Nat.le_refl _), hq]
    have HSL : Hid ((spared t P m).length = n) := by show _ = _; rw [spared_length, HPL.out]
    have HSR : Hid (∀ W, ByteRow W gb n 5 (fun j => (P.getD j 0).toNat) → ByteRow (W.setCell ⟨gb, n1, none⟩ (.int .u8 ((o ^^^ m : Nat) : Int))) gb n 5 (fun j => ((spared t P m).getD j 0).toNat)) := fun W hW => by
      have h9 := spare_row hW HPL.out hn1n hm256
      rw [ho] at h9
      rw [HSPD.out m, hn1e]
      exact h9
    have HO1 : Hid (∀ W, ByteRow W gb n 5 (fun j => (P.getD j 0).toNat) → W.cell? ⟨gb, n1, none⟩ = some (.int .u8 ((o : Nat) : Int)) ∧ W.frozen? ⟨gb, n1, none⟩ = false) := fun W hW => ⟨by rw [← ho]; exact hW.cell n1 hn1n, hW.free n1 hn1n⟩
    have hrp : 0 < r := by omega
    have hrt : decide ((0 : Int) < (r : Int)) = true := decide_eq_true (by omega)
    have e1 : (n : Int) - 1 = (n1 : Int) := by omega
    have hw1 : IntKind.i64.wrap ((n : Int) - 1) = (n1 : Int) := by rw [e1]; exact wi64 _ (Int.natCast_nonneg _) (by omega)
    clear hy hm ho hq hqd hn1e HSPB HSPD hr0 hml hkd
    generalize spared t P m = SP at *
    generalize o ^^^ m = z at *
    go_upto_region 8 with (go_at_call 12; (with_reducible refine (HD.out _).mono ?_); rintro e w5 ⟨rfl, hu5⟩; have R5 := Lib.hid hu5; have U5 := Lib.hid ((U4.out.trans UB.out).trans hu5); have B5 := Lib.hid (BB.out.grow hu5); clear hu5)
    obtain ⟨d1, d2⟩ := HO1.out w5.drew B5.out
    have F1 := HSR.out w5 B5.out
    have F2 : Upd (oneBlock gb) wb (w5.setCell ⟨gb, n1, none⟩ (.int .u8 ((z : Nat) : Int))) := Upd.setCell (R := oneBlock gb) (R5.out.mono (fun _ _ h => h.elim)) (p := ⟨gb, n1, none⟩) (.inl rfl) _
    have F3 : Upd noBlock w (w5.setCell ⟨gb, n1, none⟩ (.int .u8 ((z : Nat) : Int))) := U5.out.setCell (p := ⟨gb, n1, none⟩) (.inr (Nat.le_trans U4.out.size HG4.out)) _
    replace F1 : Hid (ByteRow (w5.setCell ⟨gb, n1, none⟩ (.int .u8 ((z : Nat) : Int))).drew gb n 5 (fun j => (SP.getD j 0).toNat)) := F1
    replace F2 := Lib.hid F2.drew
    replace F3 := Lib.hid F3.drew
    have F4 := Lib.hid (Made.far R4.out UB.out HG4.out F2.out)
    have hcv := row_text F1.out 0 n cc HSL.out (by omega)
    rw [HQT.out] at hcv
    go_region
    go_wp2_with (first
      | (go_at_call 16; (with_reducible refine (HDEC.out _ _ _ F4.out.code HQZ.out HQB.out).mono ?_); rintro e w6 ⟨rfl, hr6, hu6⟩; have U6 := Lib.hid (upd_one_new F3.out U1.out.size hu6); clear hr6 hu6)
      | (go_at_call 11; (with_reducible refine (HNIL.out _).mono ?_); rintro e w7 ⟨rfl, hu7⟩; have U7 := Lib.hid (U6.out.trans hu7); clear hu7))
    go_ret
    exact ⟨rfl, U7.out⟩
theorem bchSpare_walk (t : Int) (data : ByteArray) (sp : Int) (w : World) (_ : (Lit.int .i64 t).wf = true) (hs : data.size ≤ 140737488351232) (hsp : (Lit.int .u8 sp).wf = true) :
    Calls Try.prog 6 #[.int .i64 t, .string data, .int .u8 sp] w fun e w' => e = .returned (.bool true) ∧ Below w.heap.size w w' := by
  obtain ⟨s1, s2⟩ := (Lit.wf_int_iff .u8 sp).1 hsp
  have s1' : 0 ≤ sp := s1
  have s2' : sp ≤ 255 := s2
  obtain ⟨sp', rfl⟩ : ∃ n : Nat, sp = (n : Int) := ⟨sp.toNat, by omega⟩
  refine Calls.mono ?_ fun _ _ (h : _ ∧ Upd noBlock w _) => ⟨h.1, h.2.below (fun _ _ h => h)⟩
  by_cases h : t < 1 ∨ 8 < t ∨ (data.size : Int) < 1 ∨ 256 < (data.size : Int)
  · exact bchSpare_off t data sp' w (by unfold maxLen; omega) h
  · obtain ⟨t', rfl⟩ : ∃ n : Nat, t = (n : Int) := ⟨t.toNat, by omega⟩
    exact bchSpare_on t' data.size data sp' w rfl (by omega) (by omega) (by omega) (by omega) (by omega)
end Go.Proofs.Ytjfbbnmonfankaa
