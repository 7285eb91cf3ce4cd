/- The law's look, its settings. -/
import Derived.Test.YtjfbbnmonfankaaKGIh
import Derived.Test.YtjfbbnmonfankaaKIj
import Derived.Test.YtjfbbnmonfankaaKOw
namespace Go.Proofs.Ytjfbbnmonfankaa
open Go.RowKit Pm

theorem CodeP.one {w : World} {c t : Nat} {k : Int} (h : Made w c t k) : CodeP w c t k := .inr h
theorem par11 : parT 1 [1] = [0, 216] := by decide +kernel
set_option maxRecDepth 100000 in
set_option maxHeartbeats 1600000 in
theorem speaks_any (w : World) :
    Calls Try.prog 8 #[] w fun e w' => e = .returned (.bool true) ∧ Upd noBlock w w' := by
  have HNEW : Hid (∀ W, Calls Try.prog 9 #[.int .i64 1, .int .i64 1] W fun e w' => e = .returned (.tuple #[.pointer (some ⟨W.heap.size, 0, none⟩), .int .i64 0]) ∧ CodeP w' W.heap.size 1 1 ∧ Upd noBlock W w') := fun W => (new_any 1 1 W (by decide) (by decide) (by decide) (by decide)).mono fun e w' ⟨h1, h2, h3⟩ => ⟨h1, .inl h2, h3⟩
  have HENC : Hid (∀ c W, CodeP W c 1 1 → Calls Try.prog 11 #[.pointer (some ⟨c, 0, none⟩), .string ⟨#[1]⟩] W fun e w' => e = .returned (.tuple #[.string ⟨#[0, 216]⟩, .int .i64 0]) ∧ CodeP w' c 1 1 ∧ Upd (oneBlock c) W w') := fun c W h => (encode_any c 1 1 ⟨#[1]⟩ W h (by decide) (by decide) (by decide) rfl).mono fun e w' ⟨h1, h2, h3, _⟩ => ⟨by rw [h1]; congr 5, .inr h2, h3⟩
  have HPAR : Hid (∀ c W, CodeP W c 1 1 → Calls Try.prog 13 #[.pointer (some ⟨c, 0, none⟩)] W fun e w' => e = .returned (.int .i64 2) ∧ Upd (oneBlock c) W w') := fun c W h => (parity_any c 1 1 W h (by decide) (by decide)).mono fun e w' ⟨h1, h2, h3, _⟩ => ⟨h1, h3⟩
  have HM : Hid (∀ W w1 w2 w3 : World, Upd noBlock W w1 → Upd (oneBlock W.heap.size) w1 w2 → Upd (oneBlock W.heap.size) w2 w3 → Upd noBlock W w3) := fun W w1 w2 w3 h1 h2 h3 => ((h1.step h2 fun k hk e => absurd hk (by rw [e]; exact Nat.lt_irrefl _)).step h3 fun k hk e => absurd hk (by rw [e]; exact Nat.lt_irrefl _))
  go_enter Try.func8, Try.ntmps8
  go_wp2_with (first
    | (go_at_call 9; (with_reducible refine (HNEW.out _).mono ?_); rintro e w1 ⟨rfl, hr1, hu1⟩; have R1 := Lib.hid hr1; have U1 := Lib.hid hu1; clear hr1 hu1)
    | (go_at_call 11; (with_reducible refine (HENC.out _ _ R1.out).mono ?_); rintro e w2 ⟨rfl, hr2, hu2⟩; have R2 := Lib.hid hr2; have U2 := Lib.hid hu2; clear hr2 hu2)
    | (go_at_call 13; (with_reducible refine (HPAR.out _ _ R2.out).mono ?_); rintro e w3 ⟨rfl, hu3⟩; have U3 := Lib.hid hu3; clear hu3))
  go_ret
  exact ⟨rfl, HM.out _ _ _ _ U1.out U2.out U3.out⟩
set_option maxRecDepth 100000 in
theorem settings_yes (t k : Nat) (w : World) (h1 : 1 ≤ t) (h2 : t ≤ 8) (h3 : 1 ≤ k) (h4 : k ≤ 256) :
    Calls Try.prog 10 #[.int .i64 (t : Int), .int .i64 (k : Int)] w fun e w' => e = .returned (.bool true) ∧ w' = w := by
  have k1 : decide ((t : Int) ≥ 1) = true := decide_eq_true (by omega)
  have k2 : decide ((t : Int) ≤ 8) = true := decide_eq_true (by omega)
  have k3 : decide ((k : Int) ≥ 1) = true := decide_eq_true (by omega)
  have k4 : decide ((k : Int) ≤ 256) = true := decide_eq_true (by omega)
  go_enter Try.func10, Try.ntmps10
  go_wp2
  go_ret
  exact ⟨rfl, rfl⟩
set_option maxRecDepth 100000 in
theorem settings_no (t k : Int) (w : World) (h : t < 1 ∨ 8 < t ∨ k < 1 ∨ 256 < k) :
    Calls Try.prog 10 #[.int .i64 t, .int .i64 k] w fun e w' => e = .returned (.bool false) ∧ w' = w := by
  by_cases h1 : 1 ≤ t
  · by_cases h2 : t ≤ 8
    · by_cases h3 : 1 ≤ k
      · have h4 : ¬ k ≤ 256 := by omega
        clear h
        go_enter Try.func10, Try.ntmps10
        go_wp2
        go_ret
        exact ⟨rfl, rfl⟩
      · clear h
        go_enter Try.func10, Try.ntmps10
        go_wp2
        go_ret
        exact ⟨rfl, rfl⟩
    · clear h
      go_enter Try.func10, Try.ntmps10
      go_wp2
      go_ret
      exact ⟨rfl, rfl⟩
  · clear h
    go_enter Try.func10, Try.ntmps10
    go_wp2
    go_ret
    exact ⟨rfl, rfl⟩
end Go.Proofs.Ytjfbbnmonfankaa
