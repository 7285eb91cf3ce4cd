/- BchTurns and BchAny, walked. -/
import Derived.Test.YtjfbbnmonfankaaKNQ
import Derived.Test.YtjfbbnmonfankaaKAr
namespace Go.Proofs.Ytjfbbnmonfankaa
open F
open Go.RowKit Pm
set_option linter.unusedVariables false

set_option maxRecDepth 100000 in
set_option maxHeartbeats 3200000 in
theorem bchTurns_on (t k : Nat) (data : ByteArray) (a : Option Addr) (n c : Nat) (xs : List Int) (w : World) (hd : data.size = k) (h1 : 1 ≤ t) (h2 : t ≤ 8) (h3 : 1 ≤ k) (h4 : k ≤ 256) (hx : Ints w w.heap.size a n xs) (hnb : n ≤ 17592186044160) :
    Calls Try.prog 7 #[.int .i64 (t : Int), .string data, .slice a n c] w fun e w' => e = .returned (.bool true) ∧ Upd noBlock w w' := by
  have hnot : ∀ (x : Bool) (w : World), (Op.unary .not (.bool x)).run Try.prog w = .ok (.bool (!x)) w := fun _ _ => rfl
  have HS := Lib.hid (fun W => speaks_any W)
  obtain ⟨hN, hE, hO, _⟩ := law_calls t k h1 h2 h3 h4
  have HN := Lib.hid hN
  have HE := Lib.hid (fun c W h => hE c W data hd h)
  have HO := Lib.hid hO
  have hkd : (data.size : Int) = (k : Int) := by omega
  obtain ⟨p, hp⟩ : ∃ p : ByteArray, ⟨(parT t data.data.toList).toArray⟩ = p := ⟨_, rfl⟩
  have hpd : p.data.toList = parT t data.data.toList := by rw [← hp]
  have hpz : p.size = (13 * t + 7) / 8 := by have h9 : p.data.toList.length = p.size := rfl; rw [hpd, parT_length] at h9; exact h9.symm
  have HFL : Hid (∀ W, Upd noBlock w W → Calls Try.prog 15 #[.int .i64 (t : Int), .string data, .string p, .slice a n c] W (FlipA t k (data.data.toList ++ parT t data.data.toList) W)) := fun W hW => by
    have h9 := flipped_any t k data p a n c xs W h1 h2 h3 h4 hd hpz ((hx.grow hW (Nat.le_refl _)).more hW.size) hnb
    rw [hpd] at h9
    exact h9
  rw [hp] at HE
  have hdz : data.size ≤ 9223372036854775807 := by omega
  have hdl : data.data.toList.length = k := hd
  have hemp : ((⟨#[]⟩ : ByteArray).toList == (⟨#[]⟩ : ByteArray).toList) = true := by simp
  clear hN hE hO hx
  go_enter Try.func7, Try.ntmps7
  go_upto_region 6 with (first
    | (go_at_call 8; (with_reducible refine (HS.out _).mono ?_); rintro e w1 ⟨rfl, hu1⟩; have U1 := Lib.hid hu1; clear hu1)
    | (go_at_call 10; (with_reducible refine (HO.out _).mono ?_); rintro e w3 ⟨rfl, hw3⟩; obtain rfl := hw3.symm)
    | (go_at_call 9; (with_reducible refine (HN.out _).mono ?_); rintro e w2 ⟨rfl, hr2, hu2⟩; have R2 := Lib.hid hr2; have U2 := Lib.hid hu2; clear hr2 hu2)
    | (go_at_call 11; (with_reducible refine (HE.out _ _ R2.out).mono ?_); rintro e w4 ⟨rfl, hr4, hu4⟩; have R4 := Lib.hid hr4; have U4 := Lib.hid (U1.out.trans (upd_new U2.out hu4)); clear hr4 hu4)
    | (go_at_call 15; (with_reducible refine (HFL.out _ U4.out).mono ?_); rintro e w5 ⟨qs, hqs, rfl, hu5⟩; have QS := Lib.hid hqs; have R5 := Lib.hid (R4.out.keep hu5); have U5 := Lib.hid (U4.out.trans hu5); clear hqs hu5))
  have hw := word_flips t k h1 h2 data.data.toList hdl qs QS.out.nd QS.out.lt
  have hTl : (flips (data.data.toList ++ parT t data.data.toList) qs).length = k + (13 * t + 7) / 8 := by rw [flips_length, List.length_append, parT_length, hdl]
  obtain ⟨T, hT⟩ : ∃ T, flips (data.data.toList ++ parT t data.data.toList) qs = T := ⟨_, rfl⟩
  rw [hT] at hw hTl ⊢
  obtain ⟨qa, hqa⟩ : ∃ qa : ByteArray, ⟨(T.take k).toArray⟩ = qa := ⟨_, rfl⟩
  obtain ⟨qb, hqb⟩ : ∃ qb : ByteArray, ⟨(T.drop k).toArray⟩ = qb := ⟨_, rfl⟩
  have haz : qa.size = k := by rw [← hqa]; have : (⟨(T.take k).toArray⟩ : ByteArray).size = (T.take k).length := by simp [ByteArray.size]
                               rw [this, List.length_take]; omega
  have hbz : qb.size = (13 * t + 7) / 8 := by rw [← hqb]; have : (⟨(T.drop k).toArray⟩ : ByteArray).size = (T.drop k).length := by simp [ByteArray.size]
                                              rw [this, List.length_drop]; omega
  rw [hqa, hqb] at hw ⊢
  have hle10 : qs.length ≤ 10 := by have := QS.out.le; omega
  obtain ⟨L, hL⟩ : ∃ L, qs.length = L := ⟨_, rfl⟩
  have HGD : Hid (L ≤ t → ∃ ps, decA t k qa qb = some ps) := fun hlt => by
    obtain ⟨hg, _⟩ := good_flips t h1 h2 data.data.toList (by omega) qs QS.out.nd (by rw [hdl]; exact QS.out.lt) qa qb (by rw [hdl]; exact haz) hbz (by rw [hw, hT]) (by omega)
    rw [hdl] at hg
    exact ⟨_, decA_of (by omega) hg⟩
  rw [hL]
  cases hA : decA t k qa qb with
  | none =>
    have hlt : ¬ L ≤ t := fun h => by
      obtain ⟨ps, hps⟩ := HGD.out h
      rw [hA] at hps; cases hps
    have hE : decAns t k qa qb (decA t k qa qb) = .returned (.tuple #[.string ⟨#[]⟩, .string ⟨#[]⟩, .int .i64 0, .bool false]) := by rw [hA]; rfl
    have HDEC := Lib.hid (decode_call (c := w1.heap.size) h1 h2 h3 h4 haz hbz hE)
    have ht1 : decide ((L : Int) ≤ (t : Int)) = false := decide_eq_false (by omega)
    have ht2 : (t : Int) < (L : Int) := by omega
    have HUP : Hid (∀ W w7, Upd noBlock w W → Upd (oneBlock w1.heap.size) W w7 → Upd noBlock w w7) := fun W w7 ha hb => upd_one_new ha U1.out.size hb
    clear hE hw hTl hT hqa hqb haz hbz hL hpd hpz hp hdl hle10 hA HGD
    have c5 : CodeP w5 w1.heap.size t (k : Int) := R5.out.code
    have C5 := Lib.hid c5
    clear c5
    go_wp2_with (first
      | (go_at_call 16; have hc5 := C5; (with_reducible refine (HDEC.out _ C5.out).mono ?_); rintro e w6 ⟨rfl, hr6, hu6⟩; have C6 := Lib.hid hr6.code; have U6 := Lib.hid (HUP.out _ _ U5.out hu6); clear hr6 hu6 C5 hc5)
      | (go_at_call 16; (with_reducible refine (HDEC.out _ C6.out).mono ?_); rintro e w7 ⟨rfl, hr7, hu7⟩; have U7 := Lib.hid (HUP.out _ _ U6.out hu7); clear hr7 hu7))
    go_ret
    exact ⟨rfl, U7.out⟩
  | some ps =>
    have hg := decA_some hA
    have hE : decAns t k qa qb (decA t k qa qb) = .returned (.tuple #[.string ⟨((turns (8 * k + 13 * t) (wordOf t qa qb) ps).take k).toArray⟩, .string ⟨((turns (8 * k + 13 * t) (wordOf t qa qb) ps).drop k).toArray⟩, .int .i64 (ps.length : Int), .bool true]) := by rw [hA]; rfl
    have HDEC := Lib.hid (decode_call (c := w1.heap.size) h1 h2 h3 h4 haz hbz hE)
    have HAG := Lib.hid (fun W hW => decode_again w1.heap.size t k qa qb ps W hW h1 h2 h3 h4 haz hbz hg)
    have hpl : ps.length ≤ 8 := Nat.le_trans hg.2.2.1 h2
    obtain ⟨J, hJ⟩ : ∃ J, ps.length = J := ⟨_, rfl⟩
    rw [hJ] at HDEC hpl
    have HUP : Hid (∀ W w7, Upd noBlock w W → Upd (oneBlock w1.heap.size) W w7 → Upd noBlock w w7) := fun W w7 ha hb => upd_one_new ha U1.out.size hb
    have C5 := Lib.hid R5.out.code
    have eJ : ((J : Int) != (J : Int)) = false := by simp
    clear hE hw hTl hT hqa hqb haz hbz hL hpd hpz hp hdl hle10 hA HGD hg hJ
    generalize (⟨((turns (8 * k + 13 * t) (wordOf t qa qb) ps).take k).toArray⟩ : ByteArray) = ra at *
    generalize (⟨((turns (8 * k + 13 * t) (wordOf t qa qb) ps).drop k).toArray⟩ : ByteArray) = rb at *
    have ea : (ra.toList == ra.toList) = true := by simp
    have eb : (rb.toList == rb.toList) = true := by simp
    by_cases hlt : L ≤ t
    · have ht1 : decide ((L : Int) ≤ (t : Int)) = true := decide_eq_true (by omega)
      have ht2 : (L : Int) ≤ (t : Int) := by omega
      go_wp2_with (first
        | (go_at_call 16; have hc5 := C5; (with_reducible refine (HDEC.out _ C5.out).mono ?_); rintro e w6 ⟨rfl, hr6, hu6⟩; have C6 := Lib.hid hr6.code; have U6 := Lib.hid (HUP.out _ _ U5.out hu6); clear hr6 hu6 C5 hc5)
        | (go_at_call 16; (with_reducible refine (HDEC.out _ C6.out).mono ?_); rintro e w7 ⟨rfl, hr7, hu7⟩; have C7 := Lib.hid hr7.code; have U7 := Lib.hid (HUP.out _ _ U6.out hu7); clear hr7 hu7 C6)
        | (go_at_call 16; (with_reducible refine (HAG.out _ C7.out).mono ?_); rintro e w8 ⟨rfl, hr8, hu8⟩; have U8 := Lib.hid (HUP.out _ _ U7.out hu8); clear hr8 hu8))
      go_ret
      exact ⟨rfl, U8.out⟩
    · have ht1 : decide ((L : Int) ≤ (t : Int)) = false := decide_eq_false (by omega)
      have ht2 : ¬ (L : Int) ≤ (t : Int) := by omega
      go_wp2_with (first
        | (go_at_call 16; have hc5 := C5; (with_reducible refine (HDEC.out _ C5.out).mono ?_); rintro e w6 ⟨rfl, hr6, hu6⟩; have C6 := Lib.hid hr6.code; have U6 := Lib.hid (HUP.out _ _ U5.out hu6); clear hr6 hu6 C5 hc5)
        | (go_at_call 16; (with_reducible refine (HDEC.out _ C6.out).mono ?_); rintro e w7 ⟨rfl, hr7, hu7⟩; have C7 := Lib.hid hr7.code; have U7 := Lib.hid (HUP.out _ _ U6.out hu7); clear hr7 hu7 C6)
        | (go_at_call 16; (with_reducible refine (HAG.out _ C7.out).mono ?_); rintro e w8 ⟨rfl, hr8, hu8⟩; have U8 := Lib.hid (HUP.out _ _ U7.out hu8); clear hr8 hu8))
      go_ret
      exact ⟨rfl, U8.out⟩
theorem bchTurns_walk (t : Int) (data : ByteArray) (a : Option Addr) (n c : Nat) (zs : List Int) (w : World) (_ : (Lit.int .i64 t).wf = true) (hs : data.size ≤ 140737488351232) (hx : IsRow .i64 w a n c zs) (hc : c * 8 ≤ 140737488351232) :
    Calls Try.prog 7 #[.int .i64 t, .string data, .slice a n c] w fun e w' => e = .returned (.bool true) ∧ Below w.heap.size w w' := by
  refine Calls.mono ?_ fun _ _ (h : _ ∧ Upd noBlock w _) => ⟨h.1, h.2.below (fun _ _ h => h)⟩
  by_cases h : t < 1 ∨ 8 < t ∨ (data.size : Int) < 1 ∨ 256 < (data.size : Int)
  · exact bchTurns_off t data a n c w (by unfold maxLen; omega) h
  · obtain ⟨t', rfl⟩ : ∃ n : Nat, t = (n : Int) := ⟨t.toNat, by omega⟩
    have hnc : n ≤ c := by
      rcases hx with ⟨h1, h2, h3, h4⟩ | ⟨b, h1, h2, _⟩ <;> omega
    exact bchTurns_on t' data.size data a n c _ w rfl (by omega) (by omega) (by omega) (by omega) hx.ints.1 (by omega)
set_option maxRecDepth 100000 in
set_option maxHeartbeats 1600000 in
theorem bchAny_off (t k : Int) (data par : ByteArray) (w : World) (h : t < 1 ∨ 8 < t ∨ k < 1 ∨ 256 < k) :
    Calls Try.prog 5 #[.int .i64 t, .int .i64 k, .agg #[.string data, .string par]] w fun e w' => e = .returned (.bool true) ∧ Upd noBlock w w' := by
  have hnot : ∀ (x : Bool) (w : World), (Op.unary .not (.bool x)).run Try.prog w = .ok (.bool (!x)) w := fun _ _ => rfl
  have HS := Lib.hid (fun W => speaks_any W)
  have HN := Lib.hid (fun W => new_off t k W h)
  have HD := Lib.hid (fun W => decode_nil data par W)
  have HP := Lib.hid (fun W => parity_nil W)
  have hemp : (⟨#[]⟩ : ByteArray).toList.isEmpty = true := by rw [Lib.toList_data]; rfl
  obtain ⟨wa, hwa⟩ : ∃ wa, wa = w.alloc (.cells #[.string data, .string par] 41) := ⟨_, rfl⟩
  have BA : Hid (wa.heap[w.heap.size]? = some (.cells #[.string data, .string par] 41 (0, 0))) := by rw [hwa]; exact heap_alloc_new w _
  have UA : Hid (Upd noBlock w wa) := by rw [hwa]; exact (Upd.refl _ _).alloc _
  clear h
  go_enter Try.func5, Try.ntmps5
  go_upto_region 1 with fail
  rw [← hwa]
  clear hwa
  go_upto_region 3 with (go_at_call 8; (with_reducible refine (HS.out _).mono ?_); rintro e w1 ⟨rfl, hu1⟩; have U1 := Lib.hid (UA.out.trans hu1); have B1 := Lib.hid (hu1.cells BA.out (fun h => h)); have c0 := cell_of B1.out 0; have c1 := cell_of B1.out 1; clear hu1)
  have d0 : w1.cell? ⟨w.heap.size, 0, none⟩ = some (.string data) := c0
  have d1 : w1.cell? ⟨w.heap.size, 1, none⟩ = some (.string par) := c1
  clear c0 c1
  go_region
  go_wp2_with (first
    | (go_at_call 9; (with_reducible refine (HN.out _).mono ?_); rintro e w2 ⟨rfl, hw2⟩; obtain rfl := hw2.symm)
    | (go_at_call 16; (with_reducible refine (HD.out _).mono ?_); rintro e w3 ⟨rfl, hu3⟩; have U3 := Lib.hid (U1.out.drew.trans hu3); clear hu3)
    | (go_at_call 13; (with_reducible refine (HP.out _).mono ?_); rintro e w4 ⟨rfl, hu4⟩; have U4 := Lib.hid (U3.out.trans hu4); clear hu4))
  go_ret
  exact ⟨rfl, U4.out⟩
set_option maxRecDepth 100000 in
set_option maxHeartbeats 3200000 in
theorem bchAny_on (t k : Nat) (data par : ByteArray) (w : World) (h1 : 1 ≤ t) (h2 : t ≤ 8) (h3 : 1 ≤ k) (h4 : k ≤ 256) (hds : data.size ≤ 140737488351232) (hps : par.size ≤ 140737488351232) :
    Calls Try.prog 5 #[.int .i64 (t : Int), .int .i64 (k : Int), .agg #[.string data, .string par]] w fun e w' => e = .returned (.bool true) ∧ Upd noBlock w w' := by
  have hnot : ∀ (x : Bool) (w : World), (Op.unary .not (.bool x)).run Try.prog w = .ok (.bool (!x)) w := fun _ _ => rfl
  have HS := Lib.hid (fun W => speaks_any W)
  have HN := Lib.hid (law_calls t k h1 h2 h3 h4).1
  have HPAR : Hid (∀ c W, CodeP W c t (k : Int) → Calls Try.prog 13 #[.pointer (some ⟨c, 0, none⟩)] W fun e w' => e = .returned (.int .i64 (((13 * t + 7) / 8 : Nat) : Int)) ∧ Made w' c t (k : Int) ∧ Upd (oneBlock c) W w') := fun c W h => (parity_any c t (k : Int) W h h1 h2).mono fun e w' ⟨h1, h2, h3, _⟩ => ⟨h1, h2, h3⟩
  have hemp : (⟨#[]⟩ : ByteArray).toList.isEmpty = true := by rw [Lib.toList_data]; rfl
  have hdz : data.size ≤ 9223372036854775807 := by omega
  have hpz : par.size ≤ 9223372036854775807 := by omega
  obtain ⟨wa, hwa⟩ : ∃ wa, wa = w.alloc (.cells #[.string data, .string par] 41) := ⟨_, rfl⟩
  have BA : Hid (wa.heap[w.heap.size]? = some (.cells #[.string data, .string par] 41 (0, 0))) := by rw [hwa]; exact heap_alloc_new w _
  have UA : Hid (Upd noBlock w wa) := by rw [hwa]; exact (Upd.refl _ _).alloc _
  go_enter Try.func5, Try.ntmps5
  go_upto_region 1 with fail
  rw [← hwa]
  clear hwa
  go_upto_region 3 with (go_at_call 8; (with_reducible refine (HS.out _).mono ?_); rintro e w1 ⟨rfl, hu1⟩; have U1 := Lib.hid (UA.out.trans hu1); have B1 := Lib.hid (hu1.cells BA.out (fun h => h)); have c0 := cell_of B1.out 0; have c1 := cell_of B1.out 1; clear hu1)
  have d0 : w1.cell? ⟨w.heap.size, 0, none⟩ = some (.string data) := c0
  have d1 : w1.cell? ⟨w.heap.size, 1, none⟩ = some (.string par) := c1
  clear c0 c1
  go_region
  clear d0 d1
  go_upto_region 8 with (go_at_call 9; (with_reducible refine (HN.out _).mono ?_); rintro e w2 ⟨rfl, hr2, hu2⟩; have R2 := Lib.hid hr2; have U2 := Lib.hid (U1.out.drew.trans hu2); clear hr2 hu2)
  have HUP : Hid (∀ W w7, Upd noBlock w W → Upd (oneBlock w1.heap.size) W w7 → Upd noBlock w w7) := fun W w7 ha hb => upd_one_new ha U1.out.size hb
  replace R2 : Hid (CodeP w2 w1.heap.size t (k : Int)) := R2
  generalize w1.heap.size = c at *
  by_cases hbad : data.size = k ∧ par.size = (13 * t + 7) / 8
  · obtain ⟨ha, hb⟩ := hbad
    have e1 : ((data.size : Int) != (k : Int)) = false := by rw [bne_eq_false_iff_eq]; omega
    have e2 : ((par.size : Int) != (((13 * t + 7) / 8 : Nat) : Int)) = false := by rw [bne_eq_false_iff_eq]; omega
    rcases dec_cases t k h1 h2 data par ha hb with hE | ⟨ps, hg, hE⟩
    · have HDEC := Lib.hid (decode_call (c := c) h1 h2 h3 h4 ha hb hE)
      have HWD := Lib.hid (fun W => word_none c t k data par W)
      clear hE ha hb hds hps
      generalize (13 * t + 7) / 8 = pp at *
      go_wp2_with (first
        | (go_at_call 16; (with_reducible refine (HDEC.out _ R2.out).mono ?_); rintro e w6 ⟨rfl, hr6, hu6⟩; have C6 := Lib.hid hr6.code; have U6 := Lib.hid (HUP.out _ _ U2.out hu6); clear hr6 hu6)
        | (go_at_call 13; (with_reducible refine (HPAR.out _ _ C6.out).mono ?_); rintro e w7 ⟨rfl, hr7, hu7⟩; have U7 := Lib.hid (HUP.out _ _ U6.out hu7); clear hr7 hu7)
        | (go_at_call 17; (with_reducible refine (HWD.out _).mono ?_); rintro e w8 ⟨rfl, hu8⟩; have U8 := Lib.hid (U7.out.trans hu8); clear hu8))
      go_ret
      exact ⟨rfl, U8.out⟩
    · have HDEC := Lib.hid (decode_call (c := c) h1 h2 h3 h4 ha hb hE)
      have HWD := Lib.hid (fun W hW => word_some c t k data par ps W hW h1 h2 h3 h4 ha hb hg)
      have hpl : ps.length ≤ 8 := Nat.le_trans hg.2.2.1 h2
      obtain ⟨J, hJ⟩ : ∃ J, ps.length = J := ⟨_, rfl⟩
      rw [hJ] at HDEC HWD hpl
      clear hE ha hb hds hps hg hJ
      generalize (⟨((turns (8 * k + 13 * t) (wordOf t data par) ps).take k).toArray⟩ : ByteArray) = ra at *
      generalize (⟨((turns (8 * k + 13 * t) (wordOf t data par) ps).drop k).toArray⟩ : ByteArray) = rb at *
      generalize (13 * t + 7) / 8 = pp at *
      go_wp2_with (first
        | (go_at_call 16; (with_reducible refine (HDEC.out _ R2.out).mono ?_); rintro e w6 ⟨rfl, hr6, hu6⟩; have C6 := Lib.hid hr6.code; have U6 := Lib.hid (HUP.out _ _ U2.out hu6); clear hr6 hu6)
        | (go_at_call 13; (with_reducible refine (HPAR.out _ _ C6.out).mono ?_); rintro e w7 ⟨rfl, hr7, hu7⟩; have C7 := Lib.hid hr7.code; have U7 := Lib.hid (HUP.out _ _ U6.out hu7); clear hr7 hu7)
        | (go_at_call 17; (with_reducible refine (HWD.out _ C7.out).mono ?_); rintro e w8 ⟨rfl, hr8, hu8⟩; have U8 := Lib.hid (HUP.out _ _ U7.out hu8); clear hr8 hu8))
      go_ret
      exact ⟨rfl, U8.out⟩
  · have HDEC := Lib.hid (fun W hW => decode_off c t k data par W hW h1 h2 (by unfold maxLen; omega) (by unfold maxLen; omega) hbad)
    by_cases ha : data.size = k
    · have e1 : ((data.size : Int) != (k : Int)) = false := by rw [bne_eq_false_iff_eq]; omega
      have e2 : ((par.size : Int) != (((13 * t + 7) / 8 : Nat) : Int)) = true := by rw [bne_iff_ne]; omega
      clear ha hbad hds hps
      generalize (13 * t + 7) / 8 = pp at *
      go_wp2_with (first
        | (go_at_call 16; (with_reducible refine (HDEC.out _ R2.out).mono ?_); rintro e w6 ⟨rfl, hr6, hu6⟩; have C6 := Lib.hid hr6.code; have U6 := Lib.hid (HUP.out _ _ U2.out hu6); clear hr6 hu6)
        | (go_at_call 13; (with_reducible refine (HPAR.out _ _ C6.out).mono ?_); rintro e w7 ⟨rfl, hr7, hu7⟩; have U7 := Lib.hid (HUP.out _ _ U6.out hu7); clear hr7 hu7))
      go_ret
      exact ⟨rfl, U7.out⟩
    · have e1 : ((data.size : Int) != (k : Int)) = true := by rw [bne_iff_ne]; omega
      clear ha hbad hds hps
      go_wp2_with (first
        | (go_at_call 16; (with_reducible refine (HDEC.out _ R2.out).mono ?_); rintro e w6 ⟨rfl, hr6, hu6⟩; have C6 := Lib.hid hr6.code; have U6 := Lib.hid (HUP.out _ _ U2.out hu6); clear hr6 hu6))
      go_ret
      exact ⟨rfl, U6.out⟩
theorem bchAny_walk (t k : Int) (data par : ByteArray) (w : World) (_ : (Lit.int .i64 t).wf = true) (_ : (Lit.int .i64 k).wf = true) (hds : data.size ≤ 140737488351232) (hps : par.size ≤ 140737488351232) :
    Calls Try.prog 5 #[.int .i64 t, .int .i64 k, .agg #[.string data, .string par]] w fun e w' => e = .returned (.bool true) ∧ Below w.heap.size w w' := by
  refine Calls.mono ?_ fun _ _ (h : _ ∧ Upd noBlock w _) => ⟨h.1, h.2.below (fun _ _ h => h)⟩
  by_cases h : t < 1 ∨ 8 < t ∨ k < 1 ∨ 256 < k
  · exact bchAny_off t k data par w h
  · obtain ⟨t', rfl⟩ : ∃ n : Nat, t = (n : Int) := ⟨t.toNat, by omega⟩
    obtain ⟨k', rfl⟩ : ∃ n : Nat, k = (n : Int) := ⟨k.toNat, by omega⟩
    exact bchAny_on t' k' data par w (by omega) (by omega) (by omega) (by omega) hds hps
end Go.Proofs.Ytjfbbnmonfankaa
