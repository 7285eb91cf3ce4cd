/- BchEncodes, walked. -/
import Derived.Test.YtpfmdlmnmagkmaaIp
import Derived.Test.YtpfmdlmnmagkmaaIq
namespace Go.Proofs.Ytpfmdlmnmagkmaa
open Go.RowKit Pm
set_option linter.unusedVariables false

theorem par_bytes (t : Nat) (h8 : t ≤ 8) : IntKind.i64.wrap (((13 * t : Nat) : Int) + 7) = ((13 * t + 7 : Nat) : Int) := by rw [IntKind.wrap_i64]; omega
set_option maxRecDepth 100000 in
set_option maxHeartbeats 3200000 in
theorem bchEncodes_off (t k : Int) (s : ByteArray) (w : World) (h : t < 1 ∨ 8 < t ∨ k < 1 ∨ 256 < k) :
    Calls Try.prog 3 #[.int .i64 t, .int .i64 k, .string s] w fun e w' => e = .returned (.bool true) ∧ Upd noBlock w w' := by
  have hnot : ∀ (x : Bool) (w : World), (Op.unary .not (.bool x)).run Try.prog w = .ok (.bool (!x)) w := fun _ _ => rfl
  have HS := Lib.hid (fun W => speaks_any W)
  have HN := Lib.hid (fun W => new_off t k W h)
  have HO := Lib.hid (fun W => settings_no t k W h)
  clear h
  go_enter Try.func3, Try.ntmps3
  go_wp2_with (first
    | (go_at_call 8; (with_reducible refine (HS.out _).mono ?_); rintro e w1 ⟨rfl, hu1⟩; have U1 := Lib.hid hu1; clear hu1)
    | (go_at_call 9; (with_reducible refine (HN.out _).mono ?_); rintro e w2 ⟨rfl, rfl⟩)
    | (go_at_call 10; (with_reducible refine (HO.out _).mono ?_); rintro e w3 ⟨rfl, rfl⟩))
  go_ret
  exact ⟨rfl, U1.out⟩
/-- the program's calls in the law, where there is a code -/
theorem enc_calls (t k : Nat) (s : ByteArray) (h1 : 1 ≤ t) (h2 : t ≤ 8) (h3 : 1 ≤ k) (h4 : k ≤ 256) :
    (∀ W, Calls Try.prog 9 #[.int .i64 (t : Int), .int .i64 (k : Int)] W fun e w' => e = .returned (.tuple #[.pointer (some ⟨W.heap.size, 0, none⟩), .int .i64 0]) ∧ CodeP w' W.heap.size t (k : Int) ∧ Upd noBlock W w') ∧
    (∀ c W, CodeP W c t (k : Int) → Calls Try.prog 13 #[.pointer (some ⟨c, 0, none⟩)] W fun e w' => e = .returned (.int .i64 (((13 * t + 7) / 8 : Nat) : Int)) ∧ Upd (oneBlock c) W w') :=
  ⟨fun W => (new_any t k W h1 h2 h3 h4).mono fun e w' ⟨h1, h2, h3⟩ => ⟨h1, .inl h2, h3⟩, fun c W h => (parity_any c t (k : Int) W h h1 h2).mono fun e w' ⟨h1, _, h3, _⟩ => ⟨h1, h3⟩⟩
set_option maxRecDepth 100000 in
set_option maxHeartbeats 3200000 in
theorem bchEncodes_on (t k : Nat) (s : ByteArray) (w : World) (h1 : 1 ≤ t) (h2 : t ≤ 8) (h3 : 1 ≤ k) (h4 : k ≤ 256) (hs : s.size ≤ 140737488351232) :
    Calls Try.prog 3 #[.int .i64 (t : Int), .int .i64 (k : Int), .string s] w fun e w' => e = .returned (.bool true) ∧ Upd noBlock w w' := by
  have hnot : ∀ (x : Bool) (w : World), (Op.unary .not (.bool x)).run Try.prog w = .ok (.bool (!x)) w := fun _ _ => rfl
  have HS := Lib.hid (fun W => speaks_any W)
  obtain ⟨hN, hP⟩ := enc_calls t k s h1 h2 h3 h4
  have HN := Lib.hid hN
  have HP := Lib.hid hP
  have HO := Lib.hid (fun W => settings_yes t k W h1 h2 h3 h4)
  have HD := Lib.hid (fun W => refDegree_any t W h1 h2)
  have hw := par_bytes t h2
  have hq : ((13 * t + 7 : Nat) : Int) / 8 = (((13 * t + 7) / 8 : Nat) : Int) := by omega
  have hwp : wrap64 (((13 * t + 7) / 8 : Nat) : Int) = (((13 * t + 7) / 8 : Nat) : Int) := by unfold wrap64; omega
  have HM : Hid (∀ W w1 w2 : World, Upd noBlock W w1 → Upd (oneBlock W.heap.size) w1 w2 → Upd noBlock W w2) := fun W w1 w2 h1 h2 => h1.step h2 fun k hk e => absurd hk (by rw [e]; exact Nat.lt_irrefl _)
  by_cases hk : s.size = k
  · have HE : Hid (∀ c W, CodeP W c t (k : Int) → Calls Try.prog 11 #[.pointer (some ⟨c, 0, none⟩), .string s] W fun e w' => e = .returned (.tuple #[.string ⟨(parT t s.data.toList).toArray⟩, .int .i64 0]) ∧ CodeP w' c t (k : Int) ∧ Upd (oneBlock c) W w') := fun c W h => (encode_any c t k s W h h1 h2 (by unfold maxLen; omega) hk).mono fun e w' ⟨h1, h2, h3, _⟩ => ⟨h1, .inr h2, h3⟩
    have HRE := Lib.hid (fun W => refEncode_any t s W h1 h2 (by omega))
    generalize (⟨(parT t s.data.toList).toArray⟩ : ByteArray) = Z at *
    generalize hpp : (13 * t + 7) / 8 = pp at *
    generalize 13 * t + 7 = x7 at *
    generalize 13 * t = d at *
    have hsk : (s.size : Int) = (k : Int) := by omega
    clear hpp h1 h2 h3 h4 hs hN hP
    go_enter Try.func3, Try.ntmps3
    go_wp2_with (first
      | (go_at_call 8; (with_reducible refine (HS.out _).mono ?_); rintro e w1 ⟨rfl, hu1⟩; have U1 := Lib.hid hu1; clear hu1)
      | (go_at_call 9; (with_reducible refine (HN.out _).mono ?_); rintro e w2 ⟨rfl, hr2, hu2⟩; have R2 := Lib.hid hr2; have U2 := Lib.hid hu2; clear hr2 hu2)
      | (go_at_call 10; (with_reducible refine (HO.out _).mono ?_); rintro e w3 ⟨rfl, rfl⟩)
      | (go_at_call 11; (with_reducible refine (HE.out _ _ R2.out).mono ?_); rintro e w4 ⟨rfl, hr4, hu4⟩; have R4 := Lib.hid hr4; have U4 := Lib.hid hu4; clear hr4 hu4)
      | (go_at_call 12; (with_reducible refine (HD.out _).mono ?_); rintro e w5 ⟨rfl, hu5⟩; have R5 := Lib.hid (R4.out.keep hu5); have U5 := Lib.hid hu5; clear hu5)
      | (go_at_call 13; (with_reducible refine (HP.out _ _ R5.out).mono ?_); rintro e w6 ⟨rfl, hu6⟩; have U6 := Lib.hid hu6; clear hu6)
      | (go_at_call 14; (with_reducible refine (HRE.out _).mono ?_); rintro e w7 ⟨rfl, hu7⟩; have U7 := Lib.hid hu7; clear hu7))
    go_ret
    exact ⟨rfl, (U1.out.trans (HM.out _ _ _ ((HM.out _ _ _ U2.out U4.out).trans U5.out) U6.out)).trans U7.out⟩
  · have HE : Hid (∀ c W, CodeP W c t (k : Int) → Calls Try.prog 11 #[.pointer (some ⟨c, 0, none⟩), .string s] W fun e w' => e = .returned (.tuple #[.string ⟨#[]⟩, .int .i64 2]) ∧ CodeP w' c t (k : Int) ∧ Upd (oneBlock c) W w') := fun c W h => (encode_off c t k s W h h1 h2 hk).mono fun e w' ⟨h1, h2, h3, _⟩ => ⟨h1, .inr h2, h3⟩
    generalize hpp : (13 * t + 7) / 8 = pp at *
    generalize 13 * t + 7 = x7 at *
    generalize 13 * t = d at *
    have hsk : ((s.size : Int) != (k : Int)) = true := by rw [bne_iff_ne]; omega
    have hsz : s.size ≤ 9223372036854775807 := by omega
    clear hpp h1 h2 h3 h4 hs hN hP
    go_enter Try.func3, Try.ntmps3
    go_wp2_with (first
      | (go_at_call 8; (with_reducible refine (HS.out _).mono ?_); rintro e w1 ⟨rfl, hu1⟩; have U1 := Lib.hid hu1; clear hu1)
      | (go_at_call 9; (with_reducible refine (HN.out _).mono ?_); rintro e w2 ⟨rfl, hr2, hu2⟩; have R2 := Lib.hid hr2; have U2 := Lib.hid hu2; clear hr2 hu2)
      | (go_at_call 10; (with_reducible refine (HO.out _).mono ?_); rintro e w3 ⟨rfl, rfl⟩)
      | (go_at_call 11; (with_reducible refine (HE.out _ _ R2.out).mono ?_); rintro e w4 ⟨rfl, hr4, hu4⟩; have R4 := Lib.hid hr4; have U4 := Lib.hid hu4; clear hr4 hu4)
      | (go_at_call 12; (with_reducible refine (HD.out _).mono ?_); rintro e w5 ⟨rfl, hu5⟩; have R5 := Lib.hid (R4.out.keep hu5); have U5 := Lib.hid hu5; clear hu5)
      | (go_at_call 13; (with_reducible refine (HP.out _ _ R5.out).mono ?_); rintro e w6 ⟨rfl, hu6⟩; have U6 := Lib.hid hu6; clear hu6))
    go_ret
    exact ⟨rfl, U1.out.trans (HM.out _ _ _ ((HM.out _ _ _ U2.out U4.out).trans U5.out) U6.out)⟩
theorem bchEncodes_walk (t k : Int) (s : ByteArray) (w : World) (_ : (Lit.int IntKind.i64 t).wf = true) (_ : (Lit.int IntKind.i64 k).wf = true) (hs : s.size ≤ 140737488351232) :
    Calls Try.prog 3 #[.int .i64 t, .int .i64 k, .string s] w fun e w' => e = .returned (.bool true) ∧ Below w.heap.size w w' := by
  by_cases h : t < 1 ∨ 8 < t ∨ k < 1 ∨ 256 < k
  · exact (bchEncodes_off t k s w h).mono fun _ _ ⟨h, hu⟩ => ⟨h, hu.below (fun _ _ h => h)⟩
  · obtain ⟨t', rfl⟩ : ∃ n : Nat, t = (n : Int) := ⟨t.toNat, by omega⟩
    obtain ⟨k', rfl⟩ : ∃ n : Nat, k = (n : Int) := ⟨k.toNat, by omega⟩
    exact (bchEncodes_on t' k' s w (by omega) (by omega) (by omega) (by omega) hs).mono fun _ _ ⟨h, hu⟩ => ⟨h, hu.below (fun _ _ h => h)⟩
end Go.Proofs.Ytpfmdlmnmagkmaa
