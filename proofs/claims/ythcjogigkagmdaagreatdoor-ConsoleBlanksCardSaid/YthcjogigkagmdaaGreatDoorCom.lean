/- strings.IndexAny of a blank or a quote, of any text. -/
import Derived.Test.YthcjogigkagmdaaGreatDoorCol
import Derived.Laws.RangeAny
import Derived.Lib.IndexAny
namespace Go.Proofs.YthcjogigkagmdaaGreatDoor
open Go.RowKit
set_option linter.unusedVariables false

theorem get_bang (s : ByteArray) (p : Nat) (h : ¬ p < s.size) : (s.get! p).toNat = 0 := by
  have : s.get! p = default := by
    show s.data[p]! = _
    simp [getElem!_neg, h]
  rw [this]; rfl
/-- the bytes of a rune that is no ASCII byte -/
theorem decode_span (s : ByteArray) (p : Nat) (h : p < s.size) (ha : 128 ≤ (s[p]'h).toNat) : ∀ k, k < (Utf8.decode s p).2 → 128 ≤ (s.get! (p + k)).toNat := by
  have h0 : 128 ≤ (s.get! (p + 0)).toNat := by rw [get_at s p h]; exact ha
  have hn : ¬ (s.get! (p + 0)).toNat < 128 := by omega
  have key : ∀ k, (s.get! (p + k)).toNat / 64 = 2 → 128 ≤ (s.get! (p + k)).toNat := fun k hk => by omega
  simp only [Utf8.decode, hn, if_false]
  have one : ∀ k, k < 1 → 128 ≤ (s.get! (p + k)).toNat := fun k hk => by
    obtain rfl : k = 0 := by omega
    exact h0
  split
  · rename_i h1
    simp only [Bool.and_eq_true, beq_iff_eq, decide_eq_true_eq] at h1
    split
    · intro k hk
      have hk2 : k = 0 ∨ k = 1 := by simp at hk; omega
      rcases hk2 with rfl | rfl
      · exact h0
      · exact key 1 h1.2.2
    · exact one
  split
  · rename_i h1
    simp only [Bool.and_eq_true, beq_iff_eq, decide_eq_true_eq] at h1
    split
    · intro k hk
      have hk2 : k = 0 ∨ k = 1 ∨ k = 2 := by simp at hk; omega
      rcases hk2 with rfl | rfl | rfl
      · exact h0
      · exact key 1 h1.1.2.2
      · exact key 2 h1.2.2
    · exact one
  split
  · rename_i h1
    simp only [Bool.and_eq_true, beq_iff_eq, decide_eq_true_eq] at h1
    split
    · intro k hk
      have hk2 : k = 0 ∨ k = 1 ∨ k = 2 ∨ k = 3 := by simp at hk; omega
      rcases hk2 with rfl | rfl | rfl | rfl
      · exact h0
      · exact key 1 h1.1.1.2.2
      · exact key 2 h1.1.2.2
      · exact key 3 h1.2.2
    · exact one
  · exact one
theorem decode_in (s : ByteArray) (p : Nat) (h : p < s.size) (ha : 128 ≤ (s[p]'h).toNat) : p + (Utf8.decode s p).2 ≤ s.size := by
  rcases Nat.lt_or_ge s.size (p + (Utf8.decode s p).2) with h1 | h1
  · have h2 := decode_span s p h ha ((Utf8.decode s p).2 - 1) (by omega)
    rw [get_bang s _ (by omega)] at h2
    omega
  · exact h1
/-- a rune's text -/
theorem encode_tail (r : Int) (h : 128 ≤ r) : (∃ a b : UInt8, Utf8.encode r = ⟨#[a, b]⟩ ∧ 128 ≤ b.toNat) ∨ (∃ a b c : UInt8, Utf8.encode r = ⟨#[a, b, c]⟩) ∨ ∃ a b c d : UInt8, Utf8.encode r = ⟨#[a, b, c, d]⟩ := by
  have h128 : 128 ≤ (if Utf8.valid r then r.toNat else Utf8.runeError) := by
    split
    · omega
    · unfold Utf8.runeError; omega
  unfold Utf8.encode
  generalize (if Utf8.valid r then r.toNat else Utf8.runeError) = c at *
  simp only
  rw [if_neg (by omega)]
  by_cases h2 : c < 2048
  · rw [if_pos h2]
    refine .inl ⟨_, _, rfl, ?_⟩
    simp; omega
  rw [if_neg h2]
  by_cases h3 : c < 65536
  · rw [if_pos h3]
    exact .inr (.inl ⟨_, _, _, rfl⟩)
  rw [if_neg h3]
  exact .inr (.inr ⟨_, _, _, _, rfl⟩)
set_option maxRecDepth 100000 in
set_option maxHeartbeats 1600000 in
theorem indexRune_high (r : Int) (h1 : 128 ≤ r) (h2 : r ≤ 2147483647) (w : World) :
    Calls Tryz.prog 99 #[.string ⟨#[32, 34]⟩, .int .i32 r] w fun e w' => e = .returned (.int .i64 (-1)) ∧ Upd noBlock w w' := by
  have e0 : decide ((0 : Int) ≤ r) = true := decide_eq_true (by omega)
  have e1 : decide (r < 128) = false := decide_eq_false (by omega)
  by_cases he : r = 65533
  · subst he
    have n0 := fun ty => run_next_ascii (P := Tryz.prog) w ⟨#[32, 34]⟩ 0 ty (by decide) (by decide)
    have n1 := fun ty => run_next_ascii (P := Tryz.prog) w ⟨#[32, 34]⟩ 1 ty (by decide) (by decide)
    have n2 := fun ty => run_next_end (P := Tryz.prog) w ⟨#[32, 34]⟩ 2 ty (by decide)
    have HU : Hid (∀ p, Upd noBlock w (w.iter ⟨#[32, 34]⟩ p)) := fun p => (Upd.refl _ _).alloc _
    go_enter Tryz.func99, Tryz.ntmps99
    go_wp2
    go_loopg [5, 6] 2 (fun g _ _ wx => ∃ i : Nat, i + g = 2 ∧ wx = w.iter ⟨#[32, 34]⟩ i)
    case atStart => exact ⟨0, rfl, rfl⟩
    case round =>
      obtain ⟨i, hig, rfl⟩ := hrel
      have hi3 : i = 0 ∨ i = 1 ∨ i = 2 := by omega
      rcases hi3 with rfl | rfl | rfl
      · obtain rfl : gk = 2 := by omega
        go_wp2
        go_roundg 1
        case measure => omega
        case rel => exact ⟨1, rfl, rfl⟩
      · obtain rfl : gk = 1 := by omega
        go_wp2
        go_roundg 0
        case measure => omega
        case rel => exact ⟨2, rfl, rfl⟩
      · go_wp2
        go_ret
        exact ⟨rfl, HU.out _⟩
  · have e2 : (r == 65533) = false := beq_eq_false_iff_ne.2 he
    cases hv : Lib.validRune r with
    | false =>
      have HV := Lib.hid (Tryz.utf8_ValidRune r w)
      rw [hv] at HV
      clear hv he
      go_enter Tryz.func99, Tryz.ntmps99
      go_wp2_with (go_at_call 108; (with_reducible refine HV.out.mono ?_); rintro e w1 ⟨rfl, hw⟩; obtain rfl := hw.symm)
      go_ret
      exact ⟨rfl, Upd.refl _ _⟩
    | true =>
      have HV := Lib.hid (Tryz.utf8_ValidRune r w)
      rw [hv] at HV
      rcases encode_tail r h1 with ⟨a, b, ht, hb⟩ | ⟨a, b, c, ht⟩ | ⟨a, b, c, d, ht⟩
      · have hne : ((34 : Int) != (b.toNat : Int)) = true := by rw [bne_iff_ne]; omega
        have hne' : ((34 : Int) == (b.toNat : Int)) = false := by rw [beq_eq_false_iff_ne]; omega
        have HIB : Hid (∀ W, Calls Tryz.prog 107 #[.string ⟨#[]⟩, .int .u8 (b.toNat : Int)] W fun e w' => e = .returned (.int .i64 (-1)) ∧ W = w') := fun W => (Tryz.strings_IndexByte ⟨#[]⟩ (b.toNat : Int) W).mono fun _ _ ⟨x, y⟩ => ⟨x, y.symm⟩
        have hw2 : IntKind.i64.wrap 2 = 2 := rfl
        clear hv he
        go_enter Tryz.func99, Tryz.ntmps99
        go_wp2_with (go_at_call 108; (with_reducible refine HV.out.mono ?_); rintro e w1 ⟨rfl, hw⟩; obtain rfl := hw.symm)
        go_step3
        go_wp2
        refine wp_loop_rounds 1 ?_
        rw [rounds_succ]
        go_wp2
        go_step3
        go_wp2
        go_quiet (fail)
        have UQ9 : Hid (Upd noBlock w (w.drewN nq)) := (Upd.refl _ _).drewN _
        generalize w.drewN nq = wq at *
        have hx1 : ((({ data := #[32, 34] } : ByteArray)[1]'(by decide)).toNat : Int) = 34 := rfl
        have hx2 : ((({ data := #[a, b] } : ByteArray)[1]'(by simp [ByteArray.size])).toNat : Int) = (b.toNat : Int) := rfl
        go_wp2
        go_quiet ((go_at_call 107; exact quiet_eqC HIB.out))
        go_wp2
        simp only [go_sem]
        go_ret
        exact ⟨rfl, UQ9.out.drewN _⟩
      · clear hv he
        go_enter Tryz.func99, Tryz.ntmps99
        go_wp2_with (go_at_call 108; (with_reducible refine HV.out.mono ?_); rintro e w1 ⟨rfl, hw⟩; obtain rfl := hw.symm)
        go_step3
        go_wp2
        refine wp_loop_rounds 1 ?_
        rw [rounds_succ]
        go_wp2
        try rw [Exit.noGoto_ret]
        go_ret
        exact ⟨rfl, Upd.refl _ _⟩
      · clear hv he
        go_enter Tryz.func99, Tryz.ntmps99
        go_wp2_with (go_at_call 108; (with_reducible refine HV.out.mono ?_); rintro e w1 ⟨rfl, hw⟩; obtain rfl := hw.symm)
        go_step3
        go_wp2
        refine wp_loop_rounds 1 ?_
        rw [rounds_succ]
        go_wp2
        try rw [Exit.noGoto_ret]
        go_ret
        exact ⟨rfl, Upd.refl _ _⟩
end Go.Proofs.YthcjogigkagmdaaGreatDoor
