/- The law PolyRemainders, walked. -/
import Derived.Test.YtcmcjojjphhffaaPr
namespace Go.Proofs.Ytcmcjojjphhffaa
open Go.RowKit Pm
attribute [local irreducible] Pm.exps rm pmod pmul

set_option maxRecDepth 20000 in
set_option maxHeartbeats 1600000 in
theorem polyRemainders_walk (a0 : Option Addr) (len0 cap0 : Nat) (z0 : List Int) (a1 : Option Addr) (len1 cap1 : Nat) (z1 : List Int) (w : World)
    (w0 : IsRow .i64 w a0 len0 cap0 z0) (s0 : cap0 * 8 ≤ 140737488351232) (w1 : IsRow .i64 w a1 len1 cap1 z1) (s1 : cap1 * 8 ≤ 140737488351232) :
    Calls Try.prog 4 #[.slice a0 len0 cap0, .slice a1 len1 cap1] w fun e w' => e = .returned (.bool true) ∧ Below w.heap.size w w' := by
  have hnot : ∀ (x : Bool) (w : World), (Op.unary .not (.bool x)).run Try.prog w = .ok (.bool (!x)) w := fun _ _ => rfl
  have l0 := row_len w0
  have l1 := row_len w1
  have LA0 := Lib.hid w0.ints.1
  have LB0 := Lib.hid w1.ints.1
  have LM0 := Lib.hid w0.ints.2
  have LM1 := Lib.hid w1.ints.2
  have HU0 : Hid (Upd noBlock w w) := Upd.refl _ _
  generalize z0.take len0 = x0 at LA0
  generalize z1.take len1 = x1 at LB0
  clear w0 w1
  by_cases hz : gat x1 = 0
  · have HZ := Lib.hid hz
    clear hz
    go_enter Try.func4, Try.ntmps4
    go_wp2_with fail
    refine (speaks2_any _).mono ?_
    rintro e v1 ⟨rfl, hu⟩
    have LA1 := Lib.hid (LA0.out.next hu)
    have LB1 := Lib.hid (LB0.out.next hu)
    have HU1 := Lib.hid (HU0.out.trans hu)
    clear hu HU0 LA0 LB0
    go_wp2_with fail
    refine (copied_any a0 len0 cap0 _ x0 _ LA1.out (Nat.le_refl _) (by omega)).mono ?_
    rintro e v2 ⟨r2, rfl, ho, hu⟩
    obtain ⟨p2, c2, rfl, hi, m2, _⟩ := own_ints ho
    have CA2 := Lib.hid hi
    clear ho hi
    have LA2 := Lib.hid (LA1.out.next hu)
    have LB2 := Lib.hid (LB1.out.next hu)
    have HU2 := Lib.hid (HU1.out.trans hu)
    clear hu HU1 LA1 LB1
    go_wp2_with fail
    refine (copied_any a1 len1 cap1 _ x1 _ LB2.out (Nat.le_refl _) (by omega)).mono ?_
    rintro e v3 ⟨r3, rfl, ho, hu⟩
    obtain ⟨p3, c3, rfl, hi, m3, _⟩ := own_ints ho
    have CB3 := Lib.hid hi
    clear ho hi
    have LA3 := Lib.hid (LA2.out.next hu)
    have LB3 := Lib.hid (LB2.out.next hu)
    have CA3 := Lib.hid (CA2.out.next hu)
    have HU3 := Lib.hid (HU2.out.trans hu)
    clear hu HU2 LA2 LB2 CA2
    go_wp2_with fail
    refine (pmod_zero p2 len0 c2 p3 len1 c3 _ x1 _ CB3.out (Nat.le_refl _) m3 HZ.out).mono ?_
    rintro e v4 ⟨rfl, hu⟩
    have LA4 := Lib.hid (LA3.out.next hu)
    have LB4 := Lib.hid (LB3.out.next hu)
    have CA4 := Lib.hid (CA3.out.next hu)
    have CB4 := Lib.hid (CB3.out.next hu)
    have HU4 := Lib.hid (HU3.out.trans hu)
    clear hu HU3 LA3 LB3 CA3 CB3
    go_wp2_with fail
    refine (rMod2_zero a0 len0 cap0 _ x0 a1 len1 cap1 _ x1 _ LA4.out (Nat.le_refl _) LM0.out LB4.out (Nat.le_refl _) LM1.out HZ.out).mono ?_
    rintro e v5 ⟨rfl, hu⟩
    have LA5 := Lib.hid (LA4.out.next hu)
    have LB5 := Lib.hid (LB4.out.next hu)
    have CA5 := Lib.hid (CA4.out.next hu)
    have CB5 := Lib.hid (CB4.out.next hu)
    have HU5 := Lib.hid (HU4.out.trans hu)
    clear hu HU4 LA4 LB4 CA4 CB4
    go_wp2_with fail
    refine (same_yes none 0 0 0 none 0 0 [] _ ⟨rfl, fun h => absurd h (by omega)⟩ ⟨rfl, fun h => absurd h (by omega)⟩ (Nat.zero_le _)).mono ?_
    rintro e v6 ⟨rfl, hu⟩
    have LA6 := Lib.hid (LA5.out.next hu)
    have LB6 := Lib.hid (LB5.out.next hu)
    have CA6 := Lib.hid (CA5.out.next hu)
    have CB6 := Lib.hid (CB5.out.next hu)
    have HU6 := Lib.hid (HU5.out.trans hu)
    clear hu HU5 LA5 LB5 CA5 CB5
    go_wp2_with fail
    refine (same_yes p2 len0 c2 _ a0 cap0 _ x0 _ CA6.out LA6.out m2).mono ?_
    rintro e v7 ⟨rfl, hu⟩
    have LA7 := Lib.hid (LA6.out.next hu)
    have LB7 := Lib.hid (LB6.out.next hu)
    have CA7 := Lib.hid (CA6.out.next hu)
    have CB7 := Lib.hid (CB6.out.next hu)
    have HU7 := Lib.hid (HU6.out.trans hu)
    clear hu HU6 LA6 LB6 CA6 CB6
    go_wp2_with fail
    refine (same_yes p3 len1 c3 _ a1 cap1 _ x1 _ CB7.out LB7.out m3).mono ?_
    rintro e v8 ⟨rfl, hu⟩
    have LA8 := Lib.hid (LA7.out.next hu)
    have LB8 := Lib.hid (LB7.out.next hu)
    have CA8 := Lib.hid (CA7.out.next hu)
    have CB8 := Lib.hid (CB7.out.next hu)
    have HU8 := Lib.hid (HU7.out.trans hu)
    clear hu HU7 LA7 LB7 CA7 CB7
    go_wp2_with fail
    go_ret
    exact ⟨rfl, upd_ends HU8.out⟩
  · obtain ⟨t, ht, hy1, hy2, _⟩ := exps_head (gat x1) hz (gat_lt x1)
    have Y1 := Lib.hid hy1
    have Y2 := Lib.hid hy2
    have T1 := Lib.hid ht
    clear hz ht hy1 hy2
    go_enter Try.func4, Try.ntmps4
    go_wp2_with fail
    refine (speaks2_any _).mono ?_
    rintro e v1 ⟨rfl, hu⟩
    have LA1 := Lib.hid (LA0.out.next hu)
    have LB1 := Lib.hid (LB0.out.next hu)
    have HU1 := Lib.hid (HU0.out.trans hu)
    clear hu HU0 LA0 LB0
    go_wp2_with fail
    refine (copied_any a0 len0 cap0 _ x0 _ LA1.out (Nat.le_refl _) (by omega)).mono ?_
    rintro e v2 ⟨r2, rfl, ho, hu⟩
    obtain ⟨p2, c2, rfl, hi, m2, _⟩ := own_ints ho
    have CA2 := Lib.hid hi
    clear ho hi
    have LA2 := Lib.hid (LA1.out.next hu)
    have LB2 := Lib.hid (LB1.out.next hu)
    have HU2 := Lib.hid (HU1.out.trans hu)
    clear hu HU1 LA1 LB1
    go_wp2_with fail
    refine (copied_any a1 len1 cap1 _ x1 _ LB2.out (Nat.le_refl _) (by omega)).mono ?_
    rintro e v3 ⟨r3, rfl, ho, hu⟩
    obtain ⟨p3, c3, rfl, hi, m3, _⟩ := own_ints ho
    have CB3 := Lib.hid hi
    clear ho hi
    have LA3 := Lib.hid (LA2.out.next hu)
    have LB3 := Lib.hid (LB2.out.next hu)
    have CA3 := Lib.hid (CA2.out.next hu)
    have HU3 := Lib.hid (HU2.out.trans hu)
    clear hu HU2 LA2 LB2 CA2
    go_wp2_with fail
    refine (pmod_ok p2 len0 c2 _ x0 p3 len1 c3 _ x1 _ CA3.out (Nat.le_refl _) m2 CB3.out (Nat.le_refl _) m3 t Y1.out Y2.out T1.out).mono ?_
    rintro e v4 ⟨r4, rfl, hv, hu⟩
    obtain ⟨p4, c4, rfl, hi, m4, _⟩ := own_ints hv.1
    have M4 := Lib.hid hi
    clear hv hi
    have LA4 := Lib.hid (LA3.out.next hu)
    have LB4 := Lib.hid (LB3.out.next hu)
    have CA4 := Lib.hid (CA3.out.next hu)
    have CB4 := Lib.hid (CB3.out.next hu)
    have HU4 := Lib.hid (HU3.out.trans hu)
    clear hu HU3 LA3 LB3 CA3 CB3
    go_wp2_with fail
    refine (rMod2_ok a0 len0 cap0 _ x0 a1 len1 cap1 _ x1 _ LA4.out (Nat.le_refl _) LM0.out LB4.out (Nat.le_refl _) LM1.out t Y1.out Y2.out T1.out).mono ?_
    rintro e v5 ⟨r5, rfl, hv, hu⟩
    obtain ⟨p5, c5, rfl, hi, m5, _⟩ := own_ints hv.1
    have N5 := Lib.hid hi
    clear hv hi
    have LA5 := Lib.hid (LA4.out.next hu)
    have LB5 := Lib.hid (LB4.out.next hu)
    have CA5 := Lib.hid (CA4.out.next hu)
    have CB5 := Lib.hid (CB4.out.next hu)
    have M5 := Lib.hid (M4.out.next hu)
    have HU5 := Lib.hid (HU4.out.trans hu)
    clear hu HU4 LA4 LB4 CA4 CB4 M4
    go_wp2_with fail
    refine (same_yes p4 _ c4 _ p5 c5 _ _ _ M5.out N5.out m4).mono ?_
    rintro e v6 ⟨rfl, hu⟩
    have LA6 := Lib.hid (LA5.out.next hu)
    have LB6 := Lib.hid (LB5.out.next hu)
    have CA6 := Lib.hid (CA5.out.next hu)
    have CB6 := Lib.hid (CB5.out.next hu)
    have M6 := Lib.hid (M5.out.next hu)
    have N6 := Lib.hid (N5.out.next hu)
    have HU6 := Lib.hid (HU5.out.trans hu)
    clear hu HU5 LA5 LB5 CA5 CB5 M5 N5
    go_wp2_with fail
    refine (same_yes p2 len0 c2 _ a0 cap0 _ x0 _ CA6.out LA6.out m2).mono ?_
    rintro e v7 ⟨rfl, hu⟩
    have LA7 := Lib.hid (LA6.out.next hu)
    have LB7 := Lib.hid (LB6.out.next hu)
    have CA7 := Lib.hid (CA6.out.next hu)
    have CB7 := Lib.hid (CB6.out.next hu)
    have M7 := Lib.hid (M6.out.next hu)
    have N7 := Lib.hid (N6.out.next hu)
    have HU7 := Lib.hid (HU6.out.trans hu)
    clear hu HU6 LA6 LB6 CA6 CB6 M6 N6
    go_wp2_with fail
    refine (same_yes p3 len1 c3 _ a1 cap1 _ x1 _ CB7.out LB7.out m3).mono ?_
    rintro e v8 ⟨rfl, hu⟩
    have LA8 := Lib.hid (LA7.out.next hu)
    have LB8 := Lib.hid (LB7.out.next hu)
    have CA8 := Lib.hid (CA7.out.next hu)
    have CB8 := Lib.hid (CB7.out.next hu)
    have M8 := Lib.hid (M7.out.next hu)
    have N8 := Lib.hid (N7.out.next hu)
    have HU8 := Lib.hid (HU7.out.trans hu)
    clear hu HU7 LA7 LB7 CA7 CB7 M7 N7
    go_wp2_with fail
    go_ret
    exact ⟨rfl, upd_ends HU8.out⟩
end Go.Proofs.Ytcmcjojjphhffaa
