/- KeyOrder, whole. -/
import Derived.Test.YtbnnkpnhfjkdpaaKra
import Derived.Test.YtbnnkpnhfjkdpaaKrb
import Derived.Test.YtbnnkpnhfjkdpaaKrc
import Derived.Test.YtbnnkpnhfjkdpaaKrd
import Derived.Test.YtbnnkpnhfjkdpaaKre
namespace Go.Proofs.Ytbnnkpnhfjkdpaa
open Go.RowKit
attribute [local irreducible] beZ valN

theorem enc_hid (n k : Int) (l : List UInt8) (p : Int) (hl : l.length ≤ maxLen) (g : Bool) (hg : goodK n k l p = g) : Hid (∀ W : World, Calls Try.prog 10 #[.agg #[.int .i64 n, .int .i64 k, .string ⟨l.toArray⟩, .int .i64 p]] W fun e w' => e = .returned (.tuple #[.string ⟨(if g then encK n k l p else []).toArray⟩, .bool g]) ∧ Upd noBlock W w') := fun W => by
  subst hg
  exact Encode_any n k l p W hl
theorem range_hid (n k : Int) (g : Bool) (hg : (okN n && kindOk k) = g) : Hid (∀ W : World, Calls Try.prog 15 #[.int .i64 n, .int .i64 k] W fun e w' => e = .returned (.tuple #[.string ⟨(if g then beZ 8 n ++ beZ 1 k else []).toArray⟩, .string ⟨(if g then beZ 8 n ++ beZ 1 (k + 1) else []).toArray⟩, .bool g]) ∧ Upd noBlock W w') := fun W => by
  subst hg
  exact Range_any n k W
theorem keyOrder_upd (a0 a1 a2 b0 b1 b2 : Int) (s0 s1 : ByteArray) (w : World) (hs0 : s0.size ≤ 140737488351232) (hs1 : s1.size ≤ 140737488351232) :
    Calls Try.prog 5 #[.agg #[.int .i64 a0, .int .i64 a1, .int .i64 a2], .agg #[.int .i64 b0, .int .i64 b1, .int .i64 b2], .agg #[.string s0, .string s1]] w fun e w' => e = .returned (.bool true) ∧ Upd noBlock w w' := by
  obtain ⟨l0, rfl⟩ : ∃ l : List UInt8, s0 = ⟨l.toArray⟩ := ⟨s0.data.toList, rfl⟩
  obtain ⟨l1, rfl⟩ : ∃ l : List UInt8, s1 = ⟨l.toArray⟩ := ⟨s1.data.toList, rfl⟩
  have hl0 : l0.length ≤ maxLen := Nat.le_trans hs0 (by decide)
  have hl1 : l1.length ≤ maxLen := Nat.le_trans hs1 (by decide)
  by_cases hr : (okN a0 && kindOk a1) = true
  · have HR := range_hid a0 a1 true hr
    rw [if_pos rfl, if_pos rfl] at HR
    rw [Bool.and_eq_true, okN_iff, kindOk_iff] at hr
    obtain ⟨⟨p0, p1⟩, p2, p3⟩ := hr
    have HB8 := Lib.hid (refBytesA 8 (by omega) 8 rfl a0 (by omega) (by omega))
    have HB1 := Lib.hid (refBytesA 1 (by omega) 1 rfl a1 (by omega) (by omega))
    have HC1 := Lib.hid (refBytesA 1 (by omega) 1 rfl (a1 + 1) (by omega) (by omega))
    have z8 : (⟨(beZ 8 a0).toArray⟩ : ByteArray).size = 8 := beZ_length 8 a0
    have z9 : (⟨(beZ 1 a1).toArray⟩ : ByteArray).size = 1 := beZ_length 1 a1
    have z9' : (⟨(beZ 1 (a1 + 1)).toArray⟩ : ByteArray).size = 1 := beZ_length 1 (a1 + 1)
    have hx := cat_bytes (beZ 8 a0) (beZ 1 a1)
    have hy := cat_bytes (beZ 8 a0) (beZ 1 (a1 + 1))
    cases ga : goodK a0 a1 l0 a2 with
    | true =>
      have HEa := enc_hid a0 a1 l0 a2 hl0 true ga
      cases gb : goodK b0 b1 l1 b2 with
      | true =>
        have HEb := enc_hid b0 b1 l1 b2 hl1 true gb
        rw [if_pos rfl] at HEa HEb
        obtain ⟨r1, r2⟩ := enc_range gb p0 p1 p2 p3
        obtain ⟨k0, k1, kr⟩ := goodK_parts gb
        have hk : 1 ≤ b1 ∧ b1 ≤ 3 := by rcases kr with ⟨rfl, _⟩ | ⟨rfl, _⟩ | ⟨rfl, _⟩ <;> exact ⟨by omega, by omega⟩
        refine keyOrder_tt a0 a1 a2 b0 b1 b2 _ _ _ _ _ _ _ _ _ (lessK a0 a1 l0 a2 b0 b1 l1 b2) (encK a0 a1 l0 a2 == encK b0 b1 l1 b2) (decide (256 * b0 + b1 < 256 * a0 + a1)) (decide (256 * b0 + b1 < 256 * a0 + a1 + 1)) w HEa HEb (Lib.hid (fun W => refLess_any a0 a1 l0 a2 b0 b1 l1 b2 W)) ?_ ?_ ?_ HR p0 p1 p2 p3 z8 z9 z9' hx hy HB8 HB1 HC1 ?_ ?_ ?_
        · rw [toL, toL]; exact enc_less ga gb
        · rw [toL, toL]
        · rw [toL, toL]
          cases he : (encK a0 a1 l0 a2 == encK b0 b1 l1 b2) with
          | true =>
            obtain ⟨rfl, rfl, rfl, rfl⟩ := enc_same ga gb (by simpa using he)
            simp
          | false =>
            cases hq : (a0 == b0 && (a1 == b1 && (l0 == l1 && a2 == b2))) with
            | false => rfl
            | true =>
              simp at hq
              obtain ⟨rfl, rfl, rfl, rfl⟩ := hq
              simp at he
        · rw [toL, toL]; exact r1
        · rw [toL, toL]; exact r2
        · show _ = _
          have e1 : (b0 == a0 && b1 == a1) = decide (b0 = a0 ∧ b1 = a1) := by simp [Bool.beq_eq_decide_eq]
          rw [e1, ← decide_not, ← Bool.decide_and]
          exact decide_eq_decide.2 (by omega)
      | false =>
        have HEb := enc_hid b0 b1 l1 b2 hl1 false gb
        exact keyOrder_tf a0 a1 a2 b0 b1 b2 _ _ _ _ _ _ _ _ _ true true true true w HEa HEb HR p0 p1 p2 p3 z8 z9 z9' hx hy HB8 HB1 HC1
    | false =>
      have HEa := enc_hid a0 a1 l0 a2 hl0 false ga
      cases gb : goodK b0 b1 l1 b2 with
      | true =>
        have HEb := enc_hid b0 b1 l1 b2 hl1 true gb
        rw [if_pos rfl] at HEb
        obtain ⟨r1, r2⟩ := enc_range gb p0 p1 p2 p3
        obtain ⟨k0, k1, kr⟩ := goodK_parts gb
        have hk : 1 ≤ b1 ∧ b1 ≤ 3 := by rcases kr with ⟨rfl, _⟩ | ⟨rfl, _⟩ | ⟨rfl, _⟩ <;> exact ⟨by omega, by omega⟩
        refine keyOrder_ft a0 a1 a2 b0 b1 b2 _ _ _ _ _ _ _ _ _ true true (decide (256 * b0 + b1 < 256 * a0 + a1)) (decide (256 * b0 + b1 < 256 * a0 + a1 + 1)) w HEa HEb HR p0 p1 p2 p3 z8 z9 z9' hx hy HB8 HB1 HC1 ?_ ?_ ?_
        · rw [toL, toL]; exact r1
        · rw [toL, toL]; exact r2
        · show _ = _
          have e1 : (b0 == a0 && b1 == a1) = decide (b0 = a0 ∧ b1 = a1) := by simp [Bool.beq_eq_decide_eq]
          rw [e1, ← decide_not, ← Bool.decide_and]
          exact decide_eq_decide.2 (by omega)
      | false =>
        have HEb := enc_hid b0 b1 l1 b2 hl1 false gb
        exact keyOrder_ff a0 a1 a2 b0 b1 b2 _ _ _ _ _ _ _ _ _ true true true true w HEa HEb HR p0 p1 p2 p3 z8 z9 z9' hx hy HB8 HB1 HC1
  · have hr' : (okN a0 && kindOk a1) = false := by simpa using hr
    have HR := range_hid a0 a1 false hr'
    have ga : goodK a0 a1 l0 a2 = false := by
      cases h : goodK a0 a1 l0 a2 with
      | false => rfl
      | true =>
        obtain ⟨k0, k1, kr⟩ := goodK_parts h
        have hk : 1 ≤ a1 ∧ a1 ≤ 3 := by rcases kr with ⟨rfl, _⟩ | ⟨rfl, _⟩ | ⟨rfl, _⟩ <;> exact ⟨by omega, by omega⟩
        exact absurd (by rw [Bool.and_eq_true, okN_iff, kindOk_iff]; exact ⟨⟨k0, k1⟩, hk.1, hk.2⟩) hr
    have HEa := enc_hid a0 a1 l0 a2 hl0 false ga
    have hbad : a0 < 0 ∨ (0 ≤ a0 ∧ 1099511627776 < a0) ∨ (0 ≤ a0 ∧ a0 ≤ 1099511627776 ∧ a1 < 1) ∨ (0 ≤ a0 ∧ a0 ≤ 1099511627776 ∧ 1 ≤ a1 ∧ 3 < a1) := by
      by_cases x0 : a0 < 0
      · exact .inl x0
      by_cases x1 : 1099511627776 < a0
      · exact .inr (.inl ⟨by omega, x1⟩)
      by_cases x2 : a1 < 1
      · exact .inr (.inr (.inl ⟨by omega, by omega, x2⟩))
      by_cases x3 : 3 < a1
      · exact .inr (.inr (.inr ⟨by omega, by omega, by omega, x3⟩))
      · exact absurd (by rw [Bool.and_eq_true, okN_iff, kindOk_iff]; exact ⟨⟨by omega, by omega⟩, by omega, by omega⟩) hr
    have em : (⟨(if false = true then beZ 8 a0 ++ beZ 1 a1 else []).toArray⟩ : ByteArray) = ⟨#[]⟩ := rfl
    have em' : (⟨(if false = true then beZ 8 a0 ++ beZ 1 (a1 + 1) else []).toArray⟩ : ByteArray) = ⟨#[]⟩ := rfl
    have D := ByteArray.empty
    cases gb : goodK b0 b1 l1 b2 with
    | true =>
      have HEb := enc_hid b0 b1 l1 b2 hl1 true gb
      rcases hbad with p0 | ⟨p0, p1⟩ | ⟨p0, p1, p2⟩ | ⟨p0, p1, p2, p3⟩
      · exact keyOrder_n1t a0 a1 a2 b0 b1 b2 _ _ _ _ _ _ D D D true true true true w HEa HEb HR p0 em em'
      · exact keyOrder_n2t a0 a1 a2 b0 b1 b2 _ _ _ _ _ _ D D D true true true true w HEa HEb HR p0 p1 em em'
      · exact keyOrder_n3t a0 a1 a2 b0 b1 b2 _ _ _ _ _ _ D D D true true true true w HEa HEb HR p0 p1 p2 em em'
      · exact keyOrder_n4t a0 a1 a2 b0 b1 b2 _ _ _ _ _ _ D D D true true true true w HEa HEb HR p0 p1 p2 p3 em em'
    | false =>
      have HEb := enc_hid b0 b1 l1 b2 hl1 false gb
      rcases hbad with p0 | ⟨p0, p1⟩ | ⟨p0, p1, p2⟩ | ⟨p0, p1, p2, p3⟩
      · exact keyOrder_n1f a0 a1 a2 b0 b1 b2 _ _ _ _ _ _ D D D true true true true w HEa HEb HR p0 em em'
      · exact keyOrder_n2f a0 a1 a2 b0 b1 b2 _ _ _ _ _ _ D D D true true true true w HEa HEb HR p0 p1 em em'
      · exact keyOrder_n3f a0 a1 a2 b0 b1 b2 _ _ _ _ _ _ D D D true true true true w HEa HEb HR p0 p1 p2 em em'
      · exact keyOrder_n4f a0 a1 a2 b0 b1 b2 _ _ _ _ _ _ D D D true true true true w HEa HEb HR p0 p1 p2 p3 em em'
theorem keyOrder_walk (a0 a1 a2 b0 b1 b2 : Int) (s0 s1 : ByteArray) (w : World) (_ : (Lit.int IntKind.i64 a0).wf = true) (_ : (Lit.int IntKind.i64 a1).wf = true) (_ : (Lit.int IntKind.i64 a2).wf = true) (_ : (Lit.int IntKind.i64 b0).wf = true) (_ : (Lit.int IntKind.i64 b1).wf = true) (_ : (Lit.int IntKind.i64 b2).wf = true) (hs0 : s0.size ≤ 140737488351232) (hs1 : s1.size ≤ 140737488351232) :
    Calls Try.prog 5 #[.agg #[.int .i64 a0, .int .i64 a1, .int .i64 a2], .agg #[.int .i64 b0, .int .i64 b1, .int .i64 b2], .agg #[.string s0, .string s1]] w fun e w' => e = .returned (.bool true) ∧ Below w.heap.size w w' :=
  (keyOrder_upd a0 a1 a2 b0 b1 b2 s0 s1 w hs0 hs1).mono fun _ _ ⟨h, hu⟩ => ⟨h, hu.below (fun _ _ h => h)⟩
end Go.Proofs.Ytbnnkpnhfjkdpaa
