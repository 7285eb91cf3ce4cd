/- BchCorrects and BchTurns, walked. -/
import Derived.Test.YtjfbbnmonfankaaKNP
namespace Go.Proofs.Ytjfbbnmonfankaa
open F
open Go.RowKit Pm
set_option linter.unusedVariables false

/-- a code word with bits turned: the word as the program has it -/
theorem word_flips (t k : Nat) (h1 : 1 ≤ t) (h8 : t ≤ 8) (l : List UInt8) (hl : l.length = k) (qs : List Nat) (hn : qs.Nodup) (hq : ∀ q ∈ qs, q < 8 * k + 13 * t) :
    wordOf t ⟨((flips (l ++ parT t l) qs).take k).toArray⟩ ⟨((flips (l ++ parT t l) qs).drop k).toArray⟩ = flips (l ++ parT t l) qs := by
  obtain ⟨T, hT⟩ : ∃ T, flips (l ++ parT t l) qs = T := ⟨_, rfl⟩
  have hTl : T.length = k + (13 * t + 7) / 8 := by rw [← hT, flips_length, List.length_append, parT_length, hl]
  have hb : (⟨(T.drop k).toArray⟩ : ByteArray).size = (13 * t + 7) / 8 := by
    have : (⟨(T.drop k).toArray⟩ : ByteArray).size = (T.drop k).length := by simp [ByteArray.size]
    rw [this, List.length_drop]; omega
  have hsp : ∀ j, 13 * t ≤ j → dbit (T.drop k) j = false := fun j hj => by
    have htk : (T.take k).length = k := by rw [List.length_take]; omega
    have e := dbit_right (T.take k) (T.drop k) j
    rw [List.take_append_drop, htk] at e
    rw [← e, ← hT, dbit_flips _ _ _ hn (fun q h => by have := hq q h; rw [List.length_append, parT_length, hl]; omega), decide_eq_false (fun h => by have := hq _ h; omega)]
    have e2 := dbit_right l (parT t l) j
    rw [hl] at e2
    rw [e2, parT_spare t h1 h8 l j hj]; rfl
  rw [hT]
  unfold wordOf
  have e3 : textL (fromT (⟨(T.drop k).toArray⟩ : ByteArray) (13 * t)) (⟨(T.drop k).toArray⟩ : ByteArray).size = T.drop k := by
    refine bytes_ext (by rw [textL_length, hb, List.length_drop]; omega) fun j _ => ?_
    rw [dbit_textFrom _ t h8 hb]
    show (decide (j < 13 * t) && dbit (T.drop k) j) = _
    by_cases hj : j < 13 * t
    · rw [decide_eq_true hj, Bool.true_and]
    · rw [hsp j (by omega), Bool.and_false]
  rw [e3]
  exact List.take_append_drop k T
/-- what Decode answers, in two cases -/
theorem dec_cases (t k : Nat) (h1 : 1 ≤ t) (h8 : t ≤ 8) (qa qb : ByteArray) (ha : qa.size = k) (hb : qb.size = (13 * t + 7) / 8) :
    decAns t k qa qb (decA t k qa qb) = .returned (.tuple #[.string ⟨#[]⟩, .string ⟨#[]⟩, .int .i64 0, .bool false]) ∨
    ∃ ps, Good t (8 * k + 13 * t) (restOf t qa qb) ps ∧ decAns t k qa qb (decA t k qa qb) = .returned (.tuple #[.string ⟨((turns (8 * k + 13 * t) (wordOf t qa qb) ps).take k).toArray⟩, .string ⟨((turns (8 * k + 13 * t) (wordOf t qa qb) ps).drop k).toArray⟩, .int .i64 (ps.length : Int), .bool true]) := by
  cases h : decA t k qa qb with
  | none => exact .inl rfl
  | some ps => exact .inr ⟨ps, decA_some h, rfl⟩
/-- what is decoded is decoded again as it is -/
theorem decode_again (c t k : Nat) (qa qb : ByteArray) (ps : List Nat) (w : World) (h : CodeP w c t (k : Int)) (h1 : 1 ≤ t) (h8 : t ≤ 8) (hk1 : 1 ≤ k) (hk : k ≤ 256) (ha : qa.size = k) (hb : qb.size = (13 * t + 7) / 8) (hg : Good t (8 * k + 13 * t) (restOf t qa qb) ps) :
    Calls Try.prog 16 #[.pointer (some ⟨c, 0, none⟩), .string ⟨((turns (8 * k + 13 * t) (wordOf t qa qb) ps).take k).toArray⟩, .string ⟨((turns (8 * k + 13 * t) (wordOf t qa qb) ps).drop k).toArray⟩] w fun e w' =>
      e = .returned (.tuple #[.string ⟨((turns (8 * k + 13 * t) (wordOf t qa qb) ps).take k).toArray⟩, .string ⟨((turns (8 * k + 13 * t) (wordOf t qa qb) ps).drop k).toArray⟩, .int .i64 0, .bool true]) ∧ Made w' c t (k : Int) ∧ Upd (oneBlock c) w w' := by
  have hcode := good_code t k h1 h8 qa qb ha hb ps hg
  obtain ⟨T, hT⟩ : ∃ T, turns (8 * k + 13 * t) (wordOf t qa qb) ps = T := ⟨_, rfl⟩
  have hTl : T.length = k + (13 * t + 7) / 8 := by rw [← hT, turns_length, wordOf_length, ha, hb]
  rw [hT] at hcode ⊢
  have hxa : (⟨(T.take k).toArray⟩ : ByteArray).size = k := by
    have : (⟨(T.take k).toArray⟩ : ByteArray).size = (T.take k).length := by simp [ByteArray.size]
    rw [this, List.length_take]; omega
  have hxb : (⟨(T.drop k).toArray⟩ : ByteArray).size = (13 * t + 7) / 8 := by
    have : (⟨(T.drop k).toArray⟩ : ByteArray).size = (T.drop k).length := by simp [ByteArray.size]
    rw [this, List.length_drop]; omega
  have h9 := decode_spared c t k ⟨(T.take k).toArray⟩ ⟨(T.drop k).toArray⟩ w h h1 h8 hk1 hk hxa hxb (fun j _ => by
    show dbit (T.drop k) j = dbit (parT t (T.take k)) j
    rw [hcode])
  have e : (⟨(parT t (⟨(T.take k).toArray⟩ : ByteArray).data.toList).toArray⟩ : ByteArray) = ⟨(T.drop k).toArray⟩ := by
    show (⟨(parT t (T.take k)).toArray⟩ : ByteArray) = _
    rw [hcode]
  rw [e] at h9
  exact h9
set_option maxRecDepth 100000 in
set_option maxHeartbeats 1600000 in
theorem bchCorrects_off (t : Int) (data : ByteArray) (a : Option Addr) (n c : Nat) (w : World) (hs : data.size ≤ maxLen) (h : t < 1 ∨ 8 < t ∨ (data.size : Int) < 1 ∨ 256 < (data.size : Int)) :
    Calls Try.prog 4 #[.int .i64 t, .string data, .slice a n c] w fun e w' => e = .returned (.bool true) ∧ Upd noBlock w w' := by
  have hnot : ∀ (x : Bool) (w : World), (Op.unary .not (.bool x)).run Try.prog w = .ok (.bool (!x)) w := fun _ _ => rfl
  have HS := Lib.hid (fun W => speaks_any W)
  have HO := Lib.hid (fun W => settings_no t (data.size : Int) W h)
  unfold maxLen at hs
  clear h
  go_enter Try.func4, Try.ntmps4
  go_wp2_with (first
    | (go_at_call 8; (with_reducible refine (HS.out _).mono ?_); rintro e w1 ⟨rfl, hu1⟩; have U1 := Lib.hid hu1; clear hu1)
    | (go_at_call 10; (with_reducible refine (HO.out _).mono ?_); rintro e w3 ⟨rfl, rfl⟩))
  go_ret
  exact ⟨rfl, U1.out⟩
set_option maxRecDepth 100000 in
set_option maxHeartbeats 1600000 in
theorem bchTurns_off (t : Int) (data : ByteArray) (a : Option Addr) (n c : Nat) (w : World) (hs : data.size ≤ maxLen) (h : t < 1 ∨ 8 < t ∨ (data.size : Int) < 1 ∨ 256 < (data.size : Int)) :
    Calls Try.prog 7 #[.int .i64 t, .string data, .slice a n c] w fun e w' => e = .returned (.bool true) ∧ Upd noBlock w w' := by
  have hnot : ∀ (x : Bool) (w : World), (Op.unary .not (.bool x)).run Try.prog w = .ok (.bool (!x)) w := fun _ _ => rfl
  have HS := Lib.hid (fun W => speaks_any W)
  have HO := Lib.hid (fun W => settings_no t (data.size : Int) W h)
  unfold maxLen at hs
  clear h
  go_enter Try.func7, Try.ntmps7
  go_upto_region 2 with (first
    | (go_at_call 8; (with_reducible refine (HS.out _).mono ?_); rintro e w1 ⟨rfl, hu1⟩; have U1 := Lib.hid hu1; clear hu1)
    | (go_at_call 10; (with_reducible refine (HO.out _).mono ?_); rintro e w3 ⟨rfl, rfl⟩))
  go_wp2_with (go_at_call 8; (with_reducible refine (HS.out _).mono ?_); rintro e w4 ⟨rfl, hu4⟩; have U4 := Lib.hid (U1.out.trans hu4); clear hu4)
  go_ret
  exact ⟨rfl, U4.out⟩
theorem decode_call {c t k : Nat} {qa qb : ByteArray} {E : Ending} (h1 : 1 ≤ t) (h8 : t ≤ 8) (hk1 : 1 ≤ k) (hk : k ≤ 256) (ha : qa.size = k) (hb : qb.size = (13 * t + 7) / 8) (hE : decAns t k qa qb (decA t k qa qb) = E) : ∀ W, CodeP W c t (k : Int) →
    Calls Try.prog 16 #[.pointer (some ⟨c, 0, none⟩), .string qa, .string qb] W fun e w' => e = E ∧ Made w' c t (k : Int) ∧ Upd (oneBlock c) W w' := fun W hW => by
  rw [← hE]; exact decode_eq c t k qa qb W hW h1 h8 hk1 hk ha hb
set_option maxRecDepth 100000 in
set_option maxHeartbeats 3200000 in
theorem bchCorrects_on (t k : Nat) (data : ByteArray) (a : Option Addr) (n c : Nat) (xs : List Int) (w : World) (hd : data.size = k) (h1 : 1 ≤ t) (h2 : t ≤ 8) (h3 : 1 ≤ k) (h4 : k ≤ 256) (hx : Ints w w.heap.size a n xs) (hnb : n ≤ 17592186044160) :
    Calls Try.prog 4 #[.int .i64 (t : Int), .string data, .slice a n c] w fun e w' => e = .returned (.bool true) ∧ Upd noBlock w w' := by
  have hnot : ∀ (x : Bool) (w : World), (Op.unary .not (.bool x)).run Try.prog w = .ok (.bool (!x)) w := fun _ _ => rfl
  have HS := Lib.hid (fun W => speaks_any W)
  obtain ⟨hN, hE, hO, _⟩ := law_calls t k h1 h2 h3 h4
  have HN := Lib.hid hN
  have HE := Lib.hid (fun c W h => hE c W data hd h)
  have HO := Lib.hid hO
  have HX := Lib.hid hx
  have hkd : (data.size : Int) = (k : Int) := by omega
  obtain ⟨p, hp⟩ : ∃ p : ByteArray, ⟨(parT t data.data.toList).toArray⟩ = p := ⟨_, rfl⟩
  have hpd : p.data.toList = parT t data.data.toList := by rw [← hp]
  have hpz : p.size = (13 * t + 7) / 8 := by have h9 : p.data.toList.length = p.size := rfl; rw [hpd, parT_length] at h9; exact h9.symm
  have HFL : Hid (∀ W, Upd noBlock w W → Calls Try.prog 15 #[.int .i64 (t : Int), .string data, .string p, .slice a n c] W (FlipA t k (data.data.toList ++ parT t data.data.toList) W)) := fun W hW => by
    have h9 := flipped_any t k data p a n c xs W h1 h2 h3 h4 hd hpz ((hx.grow hW (Nat.le_refl _)).more hW.size) hnb
    rw [hpd] at h9
    exact h9
  rw [hp] at HE
  have ed : (data.toList == data.toList) = true := by simp
  have ep : (p.toList == p.toList) = true := by simp
  have hdz : data.size ≤ 9223372036854775807 := by omega
  have hdl : data.data.toList.length = k := hd
  clear hN hE hO hx
  go_enter Try.func4, Try.ntmps4
  go_upto_region 10 with (first
    | (go_at_call 8; (with_reducible refine (HS.out _).mono ?_); rintro e w1 ⟨rfl, hu1⟩; have U1 := Lib.hid hu1; clear hu1)
    | (go_at_call 10; (with_reducible refine (HO.out _).mono ?_); rintro e w3 ⟨rfl, hw3⟩; obtain rfl := hw3.symm)
    | (go_at_call 9; (with_reducible refine (HN.out _).mono ?_); rintro e w2 ⟨rfl, hr2, hu2⟩; have R2 := Lib.hid hr2; have U2 := Lib.hid hu2; clear hr2 hu2)
    | (go_at_call 11; (with_reducible refine (HE.out _ _ R2.out).mono ?_); rintro e w4 ⟨rfl, hr4, hu4⟩; have R4 := Lib.hid hr4; have U4 := Lib.hid (U1.out.trans (upd_new U2.out hu4)); clear hr4 hu4)
    | (go_at_call 15; (with_reducible refine (HFL.out _ U4.out).mono ?_); rintro e w5 ⟨qs, hqs, rfl, hu5⟩; have QS := Lib.hid hqs; have R5 := Lib.hid (R4.out.keep hu5); have U5 := Lib.hid (U4.out.trans hu5); clear hqs hu5))
  have hw := word_flips t k h1 h2 data.data.toList hdl qs QS.out.nd QS.out.lt
  have hTl : (flips (data.data.toList ++ parT t data.data.toList) qs).length = k + (13 * t + 7) / 8 := by rw [flips_length, List.length_append, parT_length, hdl]
  obtain ⟨T, hT⟩ : ∃ T, flips (data.data.toList ++ parT t data.data.toList) qs = T := ⟨_, rfl⟩
  rw [hT] at hw hTl ⊢
  obtain ⟨qa, hqa⟩ : ∃ qa : ByteArray, ⟨(T.take k).toArray⟩ = qa := ⟨_, rfl⟩
  obtain ⟨qb, hqb⟩ : ∃ qb : ByteArray, ⟨(T.drop k).toArray⟩ = qb := ⟨_, rfl⟩
  have haz : qa.size = k := by rw [← hqa]; have : (⟨(T.take k).toArray⟩ : ByteArray).size = (T.take k).length := by simp [ByteArray.size]
                               rw [this, List.length_take]; omega
  have hbz : qb.size = (13 * t + 7) / 8 := by rw [← hqb]; have : (⟨(T.drop k).toArray⟩ : ByteArray).size = (T.drop k).length := by simp [ByteArray.size]
                                              rw [this, List.length_drop]; omega
  rw [hqa, hqb] at hw ⊢
  have hle10 : qs.length ≤ 10 := by have := QS.out.le; omega
  obtain ⟨L, hL⟩ : ∃ L, qs.length = L := ⟨_, rfl⟩
  by_cases hlt : L ≤ t
  · have hE : decAns t k qa qb (decA t k qa qb) = .returned (.tuple #[.string data, .string p, .int .i64 (L : Int), .bool true]) := by
      have h9 := decAns_flips t h1 h2 data.data.toList (by omega) qs QS.out.nd (by rw [hdl]; exact QS.out.lt) qa qb (by rw [hdl]; exact haz) hbz (by rw [hw, hT]) (by omega)
      rw [hdl, hp, hL] at h9
      exact h9
    have HDEC := Lib.hid (decode_call (c := w1.heap.size) h1 h2 h3 h4 haz hbz hE)
    have ht1 : decide ((L : Int) ≤ (t : Int)) = true := decide_eq_true (by omega)
    have ht2 : (L : Int) ≤ (t : Int) := by omega
    have eL : ((L : Int) == (L : Int)) = true := beq_self_eq_true _
    rw [hL]
    clear hE hw hTl hT hqa hqb haz hbz hL hpd hpz hp hdl hle10
    go_wp2_with (go_at_call 16; (with_reducible refine (HDEC.out _ R5.out.code).mono ?_); rintro e w6 ⟨rfl, hr6, hu6⟩; have U6 := Lib.hid (upd_one_new U5.out U1.out.size hu6); clear hr6 hu6)
    go_ret
    exact ⟨rfl, U6.out⟩
  · have ht1 : decide ((L : Int) ≤ (t : Int)) = false := decide_eq_false (by omega)
    have ht2 : ¬ (L : Int) ≤ (t : Int) := by omega
    rw [hL]
    rcases dec_cases t k h1 h2 qa qb haz hbz with hE | ⟨ps, hg, hE⟩
    · have HDEC := Lib.hid (decode_call (c := w1.heap.size) h1 h2 h3 h4 haz hbz hE)
      have HWD := Lib.hid (fun W => word_none w1.heap.size t k qa qb W)
      clear hE hw hTl hT hqa hqb haz hbz hL hpd hpz hp hdl hle10
      go_wp2_with (first
        | (go_at_call 16; (with_reducible refine (HDEC.out _ R5.out.code).mono ?_); rintro e w6 ⟨rfl, hr6, hu6⟩; have U6 := Lib.hid (upd_one_new U5.out U1.out.size hu6); clear hr6 hu6)
        | (go_at_call 17; (with_reducible refine (HWD.out _).mono ?_); rintro e w7 ⟨rfl, hu7⟩; have U7 := Lib.hid (U6.out.trans hu7); clear hu7))
      go_ret
      exact ⟨rfl, U7.out⟩
    · have HDEC := Lib.hid (decode_call (c := w1.heap.size) h1 h2 h3 h4 haz hbz hE)
      have HWD := Lib.hid (fun W hW => word_some w1.heap.size t k qa qb ps W hW h1 h2 h3 h4 haz hbz hg)
      have hpl : ps.length ≤ 8 := Nat.le_trans hg.2.2.1 h2
      obtain ⟨J, hJ⟩ : ∃ J, ps.length = J := ⟨_, rfl⟩
      rw [hJ] at HDEC HWD hpl
      clear hE hw hTl hT hqa hqb haz hbz hL hpd hpz hp hdl hg hJ hle10
      generalize (⟨((turns (8 * k + 13 * t) (wordOf t qa qb) ps).take k).toArray⟩ : ByteArray) = ra at *
      generalize (⟨((turns (8 * k + 13 * t) (wordOf t qa qb) ps).drop k).toArray⟩ : ByteArray) = rb at *
      go_wp2_with (first
        | (go_at_call 16; (with_reducible refine (HDEC.out _ R5.out.code).mono ?_); rintro e w6 ⟨rfl, hr6, hu6⟩; have R6 := Lib.hid hr6; have U6 := Lib.hid (upd_one_new U5.out U1.out.size hu6); clear hr6 hu6)
        | (go_at_call 17; (with_reducible refine (HWD.out _ R6.out.code).mono ?_); rintro e w7 ⟨rfl, hr7, hu7⟩; have U7 := Lib.hid (upd_one_new U6.out U1.out.size hu7); clear hr7 hu7))
      go_ret
      exact ⟨rfl, U7.out⟩
theorem bchCorrects_walk (t : Int) (data : ByteArray) (a : Option Addr) (n c : Nat) (zs : List Int) (w : World) (_ : (Lit.int .i64 t).wf = true) (hs : data.size ≤ 140737488351232) (hx : IsRow .i64 w a n c zs) (hc : c * 8 ≤ 140737488351232) :
    Calls Try.prog 4 #[.int .i64 t, .string data, .slice a n c] w fun e w' => e = .returned (.bool true) ∧ Below w.heap.size w w' := by
  refine Calls.mono ?_ fun _ _ (h : _ ∧ Upd noBlock w _) => ⟨h.1, h.2.below (fun _ _ h => h)⟩
  by_cases h : t < 1 ∨ 8 < t ∨ (data.size : Int) < 1 ∨ 256 < (data.size : Int)
  · exact bchCorrects_off t data a n c w (by unfold maxLen; omega) h
  · obtain ⟨t', rfl⟩ : ∃ n : Nat, t = (n : Int) := ⟨t.toNat, by omega⟩
    have hnc : n ≤ c := by
      rcases hx with ⟨h1, h2, h3, h4⟩ | ⟨b, h1, h2, _⟩ <;> omega
    exact bchCorrects_on t' data.size data a n c _ w rfl (by omega) (by omega) (by omega) (by omega) hx.ints.1 (by omega)
end Go.Proofs.Ytjfbbnmonfankaa
