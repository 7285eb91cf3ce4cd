/- The law PolyDivides, walked. -/
import Derived.Test.YtfahibnbfinibaaPj
namespace Go.Proofs.Ytfahibnbfinibaa
open Go.RowKit Pm

theorem Ints.next {w w' : World} {n : Nat} {a : Option Addr} {xs : List Int} (h : Ints w w.heap.size a n xs) (hu : Upd noBlock w w') : Ints w' w'.heap.size a n xs :=
  (h.grow hu (Nat.le_refl _)).more hu.size
theorem upd_ends {a b : World} (h : Upd noBlock a b) : Below a.heap.size a b := h.below (fun _ _ h => h)
theorem row_len {w : World} {a : Option Addr} {len cap : Nat} {zs : List Int} (h : IsRow .i64 w a len cap zs) : len ≤ cap := by
  rcases h with ⟨_, h, _, _⟩ | ⟨_, _, h, _⟩
  · omega
  · exact h
attribute [local irreducible] Pm.exps rm pmod pmul

set_option maxRecDepth 20000 in
set_option maxHeartbeats 1600000 in
theorem polyDivides_walk (a0 : Option Addr) (len0 cap0 : Nat) (z0 : List Int) (a1 : Option Addr) (len1 cap1 : Nat) (z1 : List Int) (a2 : Option Addr) (len2 cap2 : Nat) (z2 : List Int) (w : World)
    (w0 : IsRow .i64 w a0 len0 cap0 z0) (s0 : cap0 * 8 ≤ 140737488351232) (w1 : IsRow .i64 w a1 len1 cap1 z1) (s1 : cap1 * 8 ≤ 140737488351232) (w2 : IsRow .i64 w a2 len2 cap2 z2) (s2 : cap2 * 8 ≤ 140737488351232) :
    Calls Try.prog 13 #[.slice a0 len0 cap0, .slice a1 len1 cap1, .slice a2 len2 cap2] w fun e w' => e = .returned (.bool true) ∧ Below w.heap.size w w' := by
  have hnot : ∀ (x : Bool) (w : World), (Op.unary .not (.bool x)).run Try.prog w = .ok (.bool (!x)) w := fun _ _ => rfl
  have l0 := row_len w0
  have l1 := row_len w1
  have l2 := row_len w2
  have LA0 := Lib.hid w0.ints.1
  have LB0 := Lib.hid w1.ints.1
  have LC0 := Lib.hid w2.ints.1
  have HU0 : Hid (Upd noBlock w w) := Upd.refl _ _
  generalize z0.take len0 = x0 at LA0
  generalize z1.take len1 = x1 at LB0
  generalize z2.take len2 = x2 at LC0
  clear w0 w1 w2
  by_cases hy : gat x1 = 0
  · have HYL : Hid ((exps (gat x1)).length = 0) := by rw [hy, exps_zero]; exact rfl
    have HY0 := Lib.hid hy
    clear hy
    have HYL0 : ∀ (w' : World) (p : Option Addr), Ints w' w'.heap.size p (exps (gat x1)).length (exps (gat x1)) → Ints w' w'.heap.size p 0 [] := fun w' p h => by
      rw [HY0.out, exps_zero] at h; exact h
    go_enter Try.func13, Try.ntmps13
    go_wp2_with fail
    refine (speaks2_any _).mono ?_
    rintro e v1 ⟨rfl, hu⟩
    have LA1 := Lib.hid (LA0.out.next hu)
    have LB1 := Lib.hid (LB0.out.next hu)
    have LC1 := Lib.hid (LC0.out.next hu)
    have HU1 := Lib.hid (HU0.out.trans hu)
    clear hu HU0 LA0 LB0 LC0
    go_wp2_with fail
    refine (copied_any a1 len1 cap1 _ x1 _ LB1.out (Nat.le_refl _) (by omega)).mono ?_
    rintro e v2 ⟨r2, rfl, ho, hu⟩
    obtain ⟨p2, c2, rfl, hi, m2, _⟩ := own_ints ho
    have CB2 := Lib.hid hi
    clear ho hi
    have LA2 := Lib.hid (LA1.out.next hu)
    have LB2 := Lib.hid (LB1.out.next hu)
    have LC2 := Lib.hid (LC1.out.next hu)
    have HU2 := Lib.hid (HU1.out.trans hu)
    clear hu HU1 LA1 LB1 LC1
    go_wp2_with fail
    refine (of_any p2 len1 c2 _ x1 _ CB2.out (Nat.le_refl _) m2).mono ?_
    rintro e v3 ⟨r3, rfl, hv, hu⟩
    obtain ⟨p3, c3, rfl, hi, m3, _⟩ := own_ints hv.1
    have Y3 := Lib.hid hi
    clear hv hi
    have LA3 := Lib.hid (LA2.out.next hu)
    have LB3 := Lib.hid (LB2.out.next hu)
    have LC3 := Lib.hid (LC2.out.next hu)
    have CB3 := Lib.hid (CB2.out.next hu)
    have HU3 := Lib.hid (HU2.out.trans hu)
    clear hu HU2 LA2 LB2 LC2 CB2
    rw [HYL.out]
    go_wp2_with fail
    refine (copied_any a2 len2 cap2 _ x2 _ LC3.out (Nat.le_refl _) (by omega)).mono ?_
    rintro e v4 ⟨r4, rfl, ho, hu⟩
    obtain ⟨p4, c4, rfl, hi, m4, _⟩ := own_ints ho
    have CC4 := Lib.hid hi
    clear ho hi
    have LA4 := Lib.hid (LA3.out.next hu)
    have LB4 := Lib.hid (LB3.out.next hu)
    have LC4 := Lib.hid (LC3.out.next hu)
    have CB4 := Lib.hid (CB3.out.next hu)
    have Y4 := Lib.hid (Y3.out.next hu)
    have HU4 := Lib.hid (HU3.out.trans hu)
    clear hu HU3 LA3 LB3 LC3 CB3 Y3
    go_wp2_with fail
    refine (pmod_zero p4 len2 c4 p3 0 c3 _ [] _ (HYL0 _ _ Y4.out) (Nat.le_refl _) (by omega) rfl).mono ?_
    rintro e v5 ⟨rfl, hu⟩
    have LA5 := Lib.hid (LA4.out.next hu)
    have LB5 := Lib.hid (LB4.out.next hu)
    have LC5 := Lib.hid (LC4.out.next hu)
    have CB5 := Lib.hid (CB4.out.next hu)
    have Y5 := Lib.hid (Y4.out.next hu)
    have CC5 := Lib.hid (CC4.out.next hu)
    have HU5 := Lib.hid (HU4.out.trans hu)
    clear hu HU4 LA4 LB4 LC4 CB4 Y4 CC4
    go_wp2_with fail
    refine (copied_any a0 len0 cap0 _ x0 _ LA5.out (Nat.le_refl _) (by omega)).mono ?_
    rintro e v6 ⟨r6, rfl, ho, hu⟩
    obtain ⟨p6, c6, rfl, hi, m6, _⟩ := own_ints ho
    have CA6 := Lib.hid hi
    clear ho hi
    have LA6 := Lib.hid (LA5.out.next hu)
    have LB6 := Lib.hid (LB5.out.next hu)
    have LC6 := Lib.hid (LC5.out.next hu)
    have CB6 := Lib.hid (CB5.out.next hu)
    have Y6 := Lib.hid (Y5.out.next hu)
    have CC6 := Lib.hid (CC5.out.next hu)
    have HU6 := Lib.hid (HU5.out.trans hu)
    clear hu HU5 LA5 LB5 LC5 CB5 Y5 CC5
    go_wp2_with fail
    refine (pmul_zero p6 len0 c6 _ x0 p3 0 c3 _ [] _ CA6.out (Nat.le_refl _) m6 (HYL0 _ _ Y6.out) (Nat.le_refl _) (by omega) (.inr rfl)).mono ?_
    rintro e v7 ⟨rfl, hu⟩
    have LA7 := Lib.hid (LA6.out.next hu)
    have LB7 := Lib.hid (LB6.out.next hu)
    have LC7 := Lib.hid (LC6.out.next hu)
    have CB7 := Lib.hid (CB6.out.next hu)
    have Y7 := Lib.hid (Y6.out.next hu)
    have CC7 := Lib.hid (CC6.out.next hu)
    have CA7 := Lib.hid (CA6.out.next hu)
    have HU7 := Lib.hid (HU6.out.trans hu)
    clear hu HU6 LA6 LB6 LC6 CB6 Y6 CC6 CA6
    go_wp2_with fail
    go_ret
    exact ⟨rfl, upd_ends HU7.out⟩
  · obtain ⟨t, ht, hy1, hy2, hye⟩ := exps_head _ hy (gat_lt x1)
    have HY : Hid (gat (exps (gat x1)) = gat x1) := gat_exps _ (gat_lt x1)
    have HY1 : Hid (2 ^ t ≤ gat (exps (gat x1))) := by rw [HY.out]; exact hy1
    have HY2 : Hid (gat (exps (gat x1)) < 2 ^ (t + 1)) := by rw [HY.out]; exact hy2
    have HYE := Lib.hid hye
    have HT := Lib.hid ht
    obtain ⟨R, HRd⟩ : ∃ R, Hid (pmod (gat x2) (gat x1) t = R) := ⟨_, rfl⟩
    have hR : R < 2 ^ t := by rw [← HRd.out]; exact pmod_small _ _ _ hy1 hy2 ht (gat_lt x2)
    have HR := Lib.hid hR
    have HRT : Hid (R < 2 ^ top) := Nat.lt_of_lt_of_le hR (Nat.pow_le_pow_right (by omega) (by unfold top; omega))
    have HGR : Hid (gat (exps R) = R) := gat_exps _ HRT.out
    have hyl : Hid (0 < (exps (gat x1)).length) := by show 0 < (exps (gat x1)).length; rw [hye]; simp
    by_cases hx : gat x0 = 0
    · have HX0 := Lib.hid hx
      have HDIV : Hid (pmod R (gat x1) t = R) := by rw [← pmod_def]; exact rm_small _ _ _ _ hR
      clear hx
      by_cases hr0 : R = 0
      · have HRL : Hid ((exps R).length = 0) := by rw [hr0, exps_zero]; exact rfl
        have HR0 : ∀ (w' : World) (p : Option Addr), Ints w' w'.heap.size p (exps R).length (exps R) → Ints w' w'.heap.size p 0 [] := fun w' p h => by
          rw [hr0, exps_zero] at h; exact h
        have HR00 := Lib.hid hr0
        clear hr0 hR hy hy1 hy2 hye ht
        have HSUM : Hid (gat [] ^^^ gat [] = R) := by rw [HR00.out]; exact rfl
        go_enter Try.func13, Try.ntmps13
        go_wp2_with fail
        refine (speaks2_any _).mono ?_
        rintro e v1 ⟨rfl, hu⟩
        have LA1 := Lib.hid (LA0.out.next hu)
        have LB1 := Lib.hid (LB0.out.next hu)
        have LC1 := Lib.hid (LC0.out.next hu)
        have HU1 := Lib.hid (HU0.out.trans hu)
        clear hu HU0 LA0 LB0 LC0
        go_wp2_with fail
        refine (copied_any a1 len1 cap1 _ x1 _ LB1.out (Nat.le_refl _) (by omega)).mono ?_
        rintro e v2 ⟨r2, rfl, ho, hu⟩
        obtain ⟨p2, c2, rfl, hi, m2, _⟩ := own_ints ho
        have CB2 := Lib.hid hi
        clear ho hi
        have LA2 := Lib.hid (LA1.out.next hu)
        have LB2 := Lib.hid (LB1.out.next hu)
        have LC2 := Lib.hid (LC1.out.next hu)
        have HU2 := Lib.hid (HU1.out.trans hu)
        clear hu HU1 LA1 LB1 LC1
        go_wp2_with fail
        refine (of_any p2 len1 c2 _ x1 _ CB2.out (Nat.le_refl _) m2).mono ?_
        rintro e v3 ⟨r3, rfl, hv, hu⟩
        obtain ⟨p3, c3, rfl, hi, m3, _⟩ := own_ints hv.1
        have Y3 := Lib.hid hi
        clear hv hi
        have LA3 := Lib.hid (LA2.out.next hu)
        have LB3 := Lib.hid (LB2.out.next hu)
        have LC3 := Lib.hid (LC2.out.next hu)
        have CB3 := Lib.hid (CB2.out.next hu)
        have HU3 := Lib.hid (HU2.out.trans hu)
        clear hu HU2 LA2 LB2 LC2 CB2
        go_wp2_with fail
        refine (copied_any a2 len2 cap2 _ x2 _ LC3.out (Nat.le_refl _) (by omega)).mono ?_
        rintro e v4 ⟨r4, rfl, ho, hu⟩
        obtain ⟨p4, c4, rfl, hi, m4, _⟩ := own_ints ho
        have CC4 := Lib.hid hi
        clear ho hi
        have LA4 := Lib.hid (LA3.out.next hu)
        have LB4 := Lib.hid (LB3.out.next hu)
        have LC4 := Lib.hid (LC3.out.next hu)
        have CB4 := Lib.hid (CB3.out.next hu)
        have Y4 := Lib.hid (Y3.out.next hu)
        have HU4 := Lib.hid (HU3.out.trans hu)
        clear hu HU3 LA3 LB3 LC3 CB3 Y3
        go_wp2_with fail
        refine (pmod_ok p4 len2 c4 _ x2 p3 _ c3 _ (exps (gat x1)) _ CC4.out (Nat.le_refl _) m4 Y4.out (Nat.le_refl _) m3 t HY1.out HY2.out HT.out).mono ?_
        rintro e v5 ⟨r5, rfl, hv, hu⟩
        rw [HY.out, HRd.out] at hv
        obtain ⟨p5, c5, rfl, hi, m5, _⟩ := own_ints hv.1
        have R5 := Lib.hid hi
        clear hv hi
        have LA5 := Lib.hid (LA4.out.next hu)
        have LB5 := Lib.hid (LB4.out.next hu)
        have LC5 := Lib.hid (LC4.out.next hu)
        have CB5 := Lib.hid (CB4.out.next hu)
        have Y5 := Lib.hid (Y4.out.next hu)
        have CC5 := Lib.hid (CC4.out.next hu)
        have HU5 := Lib.hid (HU4.out.trans hu)
        clear hu HU4 LA4 LB4 LC4 CB4 Y4 CC4
        rw [HRL.out]
        go_wp2_with fail
        refine (copied_any a0 len0 cap0 _ x0 _ LA5.out (Nat.le_refl _) (by omega)).mono ?_
        rintro e v6 ⟨r6, rfl, ho, hu⟩
        obtain ⟨p6, c6, rfl, hi, m6, _⟩ := own_ints ho
        have CA6 := Lib.hid hi
        clear ho hi
        have LA6 := Lib.hid (LA5.out.next hu)
        have LB6 := Lib.hid (LB5.out.next hu)
        have LC6 := Lib.hid (LC5.out.next hu)
        have CB6 := Lib.hid (CB5.out.next hu)
        have Y6 := Lib.hid (Y5.out.next hu)
        have CC6 := Lib.hid (CC5.out.next hu)
        have R6 := Lib.hid (R5.out.next hu)
        have HU6 := Lib.hid (HU5.out.trans hu)
        clear hu HU5 LA5 LB5 LC5 CB5 Y5 CC5 R5
        go_wp2_with fail
        refine (pmul_zero p6 len0 c6 _ x0 p3 _ c3 _ (exps (gat x1)) _ CA6.out (Nat.le_refl _) m6 Y6.out (Nat.le_refl _) m3 (.inl HX0.out)).mono ?_
        rintro e v7 ⟨rfl, hu⟩
        have LA7 := Lib.hid (LA6.out.next hu)
        have LB7 := Lib.hid (LB6.out.next hu)
        have LC7 := Lib.hid (LC6.out.next hu)
        have CB7 := Lib.hid (CB6.out.next hu)
        have Y7 := Lib.hid (Y6.out.next hu)
        have CC7 := Lib.hid (CC6.out.next hu)
        have R7 := Lib.hid (R6.out.next hu)
        have CA7 := Lib.hid (CA6.out.next hu)
        have HU7 := Lib.hid (HU6.out.trans hu)
        clear hu HU6 LA6 LB6 LC6 CB6 Y6 CC6 R6 CA6
        go_wp2_with fail
        go_quiet (fail)
        have hu : Upd noBlock v7 (v7.drewN nq) := (Upd.refl _ _).drewN nq
        have LA8 := Lib.hid (LA7.out.next hu)
        have LB8 := Lib.hid (LB7.out.next hu)
        have LC8 := Lib.hid (LC7.out.next hu)
        have CB8 := Lib.hid (CB7.out.next hu)
        have Y8 := Lib.hid (Y7.out.next hu)
        have CC8 := Lib.hid (CC7.out.next hu)
        have R8 := Lib.hid (R7.out.next hu)
        have CA8 := Lib.hid (CA7.out.next hu)
        have HU8 := Lib.hid (HU7.out.trans hu)
        clear hu HU7 LA7 LB7 LC7 CB7 Y7 CC7 R7 CA7
        go_wp2_with fail
        refine (add2_any none 0 0 0 [] p5 0 c5 _ [] _ ⟨rfl, fun h => absurd h (by omega)⟩ (Nat.zero_le _) (Nat.zero_le _) (HR0 _ _ R8.out) (Nat.le_refl _) (Nat.zero_le _)).mono ?_
        rintro e v8 ⟨r8, rfl, hv, hu⟩
        rw [HSUM.out] at hv
        obtain ⟨p8, c8, rfl, hi, m8, _⟩ := own_ints hv.1
        have S9 := Lib.hid hi
        clear hv hi
        have LA9 := Lib.hid (LA8.out.next hu)
        have LB9 := Lib.hid (LB8.out.next hu)
        have LC9 := Lib.hid (LC8.out.next hu)
        have CB9 := Lib.hid (CB8.out.next hu)
        have Y9 := Lib.hid (Y8.out.next hu)
        have CC9 := Lib.hid (CC8.out.next hu)
        have R9 := Lib.hid (R8.out.next hu)
        have CA9 := Lib.hid (CA8.out.next hu)
        have HU9 := Lib.hid (HU8.out.trans hu)
        clear hu HU8 LA8 LB8 LC8 CB8 Y8 CC8 R8 CA8
        go_wp2_with fail
        refine (pmod_ok p8 _ c8 _ (exps R) p3 _ c3 _ (exps (gat x1)) _ S9.out (Nat.le_refl _) m8 Y9.out (Nat.le_refl _) m3 t HY1.out HY2.out HT.out).mono ?_
        rintro e v9 ⟨r9, rfl, hv, hu⟩
        rw [HY.out, HGR.out, HDIV.out] at hv
        obtain ⟨p9, c9, rfl, hi, m9, _⟩ := own_ints hv.1
        have Q10 := Lib.hid hi
        clear hv hi
        have LA10 := Lib.hid (LA9.out.next hu)
        have LB10 := Lib.hid (LB9.out.next hu)
        have LC10 := Lib.hid (LC9.out.next hu)
        have CB10 := Lib.hid (CB9.out.next hu)
        have Y10 := Lib.hid (Y9.out.next hu)
        have CC10 := Lib.hid (CC9.out.next hu)
        have R10 := Lib.hid (R9.out.next hu)
        have CA10 := Lib.hid (CA9.out.next hu)
        have S10 := Lib.hid (S9.out.next hu)
        have HU10 := Lib.hid (HU9.out.trans hu)
        clear hu HU9 LA9 LB9 LC9 CB9 Y9 CC9 R9 CA9 S9
        rw [HRL.out]
        go_wp2_with fail
        refine (same_yes p9 0 c9 _ p5 c5 _ [] _ (HR0 _ _ Q10.out) (HR0 _ _ R10.out) (Nat.zero_le _)).mono ?_
        rintro e v10 ⟨rfl, hu⟩
        have LA11 := Lib.hid (LA10.out.next hu)
        have LB11 := Lib.hid (LB10.out.next hu)
        have LC11 := Lib.hid (LC10.out.next hu)
        have CB11 := Lib.hid (CB10.out.next hu)
        have Y11 := Lib.hid (Y10.out.next hu)
        have CC11 := Lib.hid (CC10.out.next hu)
        have R11 := Lib.hid (R10.out.next hu)
        have CA11 := Lib.hid (CA10.out.next hu)
        have S11 := Lib.hid (S10.out.next hu)
        have Q11 := Lib.hid (Q10.out.next hu)
        have HU11 := Lib.hid (HU10.out.trans hu)
        clear hu HU10 LA10 LB10 LC10 CB10 Y10 CC10 R10 CA10 S10 Q10
        go_wp2_with fail
        go_ret
        exact ⟨rfl, upd_ends HU11.out⟩
      · obtain ⟨u, _, hu1, _, hre⟩ := exps_head R hr0 HRT.out
        have hut : u < t := (Nat.pow_lt_pow_iff_right (by omega)).1 (Nat.lt_of_le_of_lt hu1 hR)
        have HRE := Lib.hid hre
        obtain ⟨nr, HNR⟩ : ∃ nr, Hid ((exps R).length = nr) := ⟨_, rfl⟩
        have hrl : Hid (0 < nr) := by show 0 < nr; rw [← HNR.out, hre]; simp
        have t1 : decide ((0 : Int) < (nr : Int)) = true := decide_eq_true (by have := hrl.out; omega)
        have t2 : decide ((t : Int) ≤ (u : Int)) = false := decide_eq_false (by omega)
        have t4 : decide (t ≤ u) = false := decide_eq_false (by omega)
        clear hr0 hR hy hy1 hy2 hye ht hu1 hre hut
        have HSUM : Hid (gat [] ^^^ gat (exps R) = R) := by rw [HGR.out]; exact Nat.zero_xor R
        go_enter Try.func13, Try.ntmps13
        go_wp2_with fail
        refine (speaks2_any _).mono ?_
        rintro e v1 ⟨rfl, hu⟩
        have LA1 := Lib.hid (LA0.out.next hu)
        have LB1 := Lib.hid (LB0.out.next hu)
        have LC1 := Lib.hid (LC0.out.next hu)
        have HU1 := Lib.hid (HU0.out.trans hu)
        clear hu HU0 LA0 LB0 LC0
        go_wp2_with fail
        refine (copied_any a1 len1 cap1 _ x1 _ LB1.out (Nat.le_refl _) (by omega)).mono ?_
        rintro e v2 ⟨r2, rfl, ho, hu⟩
        obtain ⟨p2, c2, rfl, hi, m2, _⟩ := own_ints ho
        have CB2 := Lib.hid hi
        clear ho hi
        have LA2 := Lib.hid (LA1.out.next hu)
        have LB2 := Lib.hid (LB1.out.next hu)
        have LC2 := Lib.hid (LC1.out.next hu)
        have HU2 := Lib.hid (HU1.out.trans hu)
        clear hu HU1 LA1 LB1 LC1
        go_wp2_with fail
        refine (of_any p2 len1 c2 _ x1 _ CB2.out (Nat.le_refl _) m2).mono ?_
        rintro e v3 ⟨r3, rfl, hv, hu⟩
        obtain ⟨p3, c3, rfl, hi, m3, _⟩ := own_ints hv.1
        have Y3 := Lib.hid hi
        clear hv hi
        have LA3 := Lib.hid (LA2.out.next hu)
        have LB3 := Lib.hid (LB2.out.next hu)
        have LC3 := Lib.hid (LC2.out.next hu)
        have CB3 := Lib.hid (CB2.out.next hu)
        have HU3 := Lib.hid (HU2.out.trans hu)
        clear hu HU2 LA2 LB2 LC2 CB2
        go_wp2_with fail
        refine (copied_any a2 len2 cap2 _ x2 _ LC3.out (Nat.le_refl _) (by omega)).mono ?_
        rintro e v4 ⟨r4, rfl, ho, hu⟩
        obtain ⟨p4, c4, rfl, hi, m4, _⟩ := own_ints ho
        have CC4 := Lib.hid hi
        clear ho hi
        have LA4 := Lib.hid (LA3.out.next hu)
        have LB4 := Lib.hid (LB3.out.next hu)
        have LC4 := Lib.hid (LC3.out.next hu)
        have CB4 := Lib.hid (CB3.out.next hu)
        have Y4 := Lib.hid (Y3.out.next hu)
        have HU4 := Lib.hid (HU3.out.trans hu)
        clear hu HU3 LA3 LB3 LC3 CB3 Y3
        go_wp2_with fail
        refine (pmod_ok p4 len2 c4 _ x2 p3 _ c3 _ (exps (gat x1)) _ CC4.out (Nat.le_refl _) m4 Y4.out (Nat.le_refl _) m3 t HY1.out HY2.out HT.out).mono ?_
        rintro e v5 ⟨r5, rfl, hv, hu⟩
        rw [HY.out, HRd.out] at hv
        obtain ⟨p5, c5, rfl, hi, m5, _⟩ := own_ints hv.1
        rw [HNR.out] at hi m5
        rw [HNR.out]
        have R5 := Lib.hid hi
        clear hv hi
        have LA5 := Lib.hid (LA4.out.next hu)
        have LB5 := Lib.hid (LB4.out.next hu)
        have LC5 := Lib.hid (LC4.out.next hu)
        have CB5 := Lib.hid (CB4.out.next hu)
        have Y5 := Lib.hid (Y4.out.next hu)
        have CC5 := Lib.hid (CC4.out.next hu)
        have HU5 := Lib.hid (HU4.out.trans hu)
        clear hu HU4 LA4 LB4 LC4 CB4 Y4 CC4
        go_wp2_with fail
        refine (copied_any a0 len0 cap0 _ x0 _ LA5.out (Nat.le_refl _) (by omega)).mono ?_
        rintro e v6 ⟨r6, rfl, ho, hu⟩
        obtain ⟨p6, c6, rfl, hi, m6, _⟩ := own_ints ho
        have CA6 := Lib.hid hi
        clear ho hi
        have LA6 := Lib.hid (LA5.out.next hu)
        have LB6 := Lib.hid (LB5.out.next hu)
        have LC6 := Lib.hid (LC5.out.next hu)
        have CB6 := Lib.hid (CB5.out.next hu)
        have Y6 := Lib.hid (Y5.out.next hu)
        have CC6 := Lib.hid (CC5.out.next hu)
        have R6 := Lib.hid (R5.out.next hu)
        have HU6 := Lib.hid (HU5.out.trans hu)
        clear hu HU5 LA5 LB5 LC5 CB5 Y5 CC5 R5
        go_wp2_with fail
        refine (pmul_zero p6 len0 c6 _ x0 p3 _ c3 _ (exps (gat x1)) _ CA6.out (Nat.le_refl _) m6 Y6.out (Nat.le_refl _) m3 (.inl HX0.out)).mono ?_
        rintro e v7 ⟨rfl, hu⟩
        have LA7 := Lib.hid (LA6.out.next hu)
        have LB7 := Lib.hid (LB6.out.next hu)
        have LC7 := Lib.hid (LC6.out.next hu)
        have CB7 := Lib.hid (CB6.out.next hu)
        have Y7 := Lib.hid (Y6.out.next hu)
        have CC7 := Lib.hid (CC6.out.next hu)
        have R7 := Lib.hid (R6.out.next hu)
        have CA7 := Lib.hid (CA6.out.next hu)
        have HU7 := Lib.hid (HU6.out.trans hu)
        clear hu HU6 LA6 LB6 LC6 CB6 Y6 CC6 R6 CA6
        obtain ⟨gr, orr, rfl, _, hcr⟩ := R7.out.cell hrl.out
        obtain ⟨gy, oy, rfl, _, hcy⟩ := Y7.out.cell hyl.out
        have cr : v7.cell? ⟨gr, orr, none⟩ = some (.int .i64 (u : Int)) := by have := hcr 0 hrl.out; rw [HRE.out] at this; exact this
        have cy : v7.cell? ⟨gy, oy, none⟩ = some (.int .i64 (t : Int)) := by have := hcy 0 hyl.out; rw [HYE.out] at this; exact this
        clear hcr hcy
        have hq1 := hrl.out
        have hq2 := hyl.out
        have t3 : decide (0 < nr) = true := decide_eq_true hq1
        go_wp2_with fail
        go_quiet (fail)
        have hu : Upd noBlock v7 (v7.drewN nq) := (Upd.refl _ _).drewN nq
        clear cr cy hq1 hq2 t3
        have LA8 := Lib.hid (LA7.out.next hu)
        have LB8 := Lib.hid (LB7.out.next hu)
        have LC8 := Lib.hid (LC7.out.next hu)
        have CB8 := Lib.hid (CB7.out.next hu)
        have Y8 := Lib.hid (Y7.out.next hu)
        have CC8 := Lib.hid (CC7.out.next hu)
        have R8 := Lib.hid (R7.out.next hu)
        have CA8 := Lib.hid (CA7.out.next hu)
        have HU8 := Lib.hid (HU7.out.trans hu)
        clear hu HU7 LA7 LB7 LC7 CB7 Y7 CC7 R7 CA7
        go_wp2_with fail
        refine (add2_any none 0 0 0 [] (some ⟨gr, orr, none⟩) _ c5 _ (exps R) _ ⟨rfl, fun h => absurd h (by omega)⟩ (Nat.zero_le _) (Nat.zero_le _) R8.out (Nat.le_refl _) m5).mono ?_
        rintro e v8 ⟨r8, rfl, hv, hu⟩
        rw [HSUM.out] at hv
        obtain ⟨p8, c8, rfl, hi, m8, _⟩ := own_ints hv.1
        have S9 := Lib.hid hi
        clear hv hi
        have LA9 := Lib.hid (LA8.out.next hu)
        have LB9 := Lib.hid (LB8.out.next hu)
        have LC9 := Lib.hid (LC8.out.next hu)
        have CB9 := Lib.hid (CB8.out.next hu)
        have Y9 := Lib.hid (Y8.out.next hu)
        have CC9 := Lib.hid (CC8.out.next hu)
        have R9 := Lib.hid (R8.out.next hu)
        have CA9 := Lib.hid (CA8.out.next hu)
        have HU9 := Lib.hid (HU8.out.trans hu)
        clear hu HU8 LA8 LB8 LC8 CB8 Y8 CC8 R8 CA8
        go_wp2_with fail
        refine (pmod_ok p8 _ c8 _ (exps R) (some ⟨gy, oy, none⟩) _ c3 _ (exps (gat x1)) _ S9.out (Nat.le_refl _) m8 Y9.out (Nat.le_refl _) m3 t HY1.out HY2.out HT.out).mono ?_
        rintro e v9 ⟨r9, rfl, hv, hu⟩
        rw [HY.out, HGR.out, HDIV.out] at hv
        obtain ⟨p9, c9, rfl, hi, m9, _⟩ := own_ints hv.1
        rw [HNR.out] at hi m9
        rw [HNR.out]
        have Q10 := Lib.hid hi
        clear hv hi
        have LA10 := Lib.hid (LA9.out.next hu)
        have LB10 := Lib.hid (LB9.out.next hu)
        have LC10 := Lib.hid (LC9.out.next hu)
        have CB10 := Lib.hid (CB9.out.next hu)
        have Y10 := Lib.hid (Y9.out.next hu)
        have CC10 := Lib.hid (CC9.out.next hu)
        have R10 := Lib.hid (R9.out.next hu)
        have CA10 := Lib.hid (CA9.out.next hu)
        have S10 := Lib.hid (S9.out.next hu)
        have HU10 := Lib.hid (HU9.out.trans hu)
        clear hu HU9 LA9 LB9 LC9 CB9 Y9 CC9 R9 CA9 S9
        go_wp2_with fail
        refine (same_yes p9 _ c9 _ (some ⟨gr, orr, none⟩) c5 _ (exps R) _ Q10.out R10.out m9).mono ?_
        rintro e v10 ⟨rfl, hu⟩
        have LA11 := Lib.hid (LA10.out.next hu)
        have LB11 := Lib.hid (LB10.out.next hu)
        have LC11 := Lib.hid (LC10.out.next hu)
        have CB11 := Lib.hid (CB10.out.next hu)
        have Y11 := Lib.hid (Y10.out.next hu)
        have CC11 := Lib.hid (CC10.out.next hu)
        have R11 := Lib.hid (R10.out.next hu)
        have CA11 := Lib.hid (CA10.out.next hu)
        have S11 := Lib.hid (S10.out.next hu)
        have Q11 := Lib.hid (Q10.out.next hu)
        have HU11 := Lib.hid (HU10.out.trans hu)
        clear hu HU10 LA10 LB10 LC10 CB10 Y10 CC10 R10 CA10 S10 Q10
        go_wp2_with fail
        go_ret
        exact ⟨rfl, upd_ends HU11.out⟩
    · obtain ⟨s, hs, hx1, hx2, _⟩ := exps_head _ hx (gat_lt x0)
      have HX1 := Lib.hid hx1
      have HX2 := Lib.hid hx2
      by_cases hst : s + t ≤ 16384
      · have HST := Lib.hid hst
        obtain ⟨M, HM⟩ : ∃ M, Hid (pmul (gat x0) (gat x1) = M) := ⟨_, rfl⟩
        have hMT : M < 2 ^ top := by
          rw [← HM.out]
          exact Nat.lt_of_lt_of_le (pmul_deg _ _ s t hx1 hx2 hy1 hy2 hst).2 (Nat.pow_le_pow_right (by omega) (by unfold top; omega))
        have HGM : Hid (gat (exps M) = M) := gat_exps _ hMT
        obtain ⟨S, HS⟩ : ∃ S, Hid (M ^^^ R = S) := ⟨_, rfl⟩
        have HGS : Hid (gat (exps S) = S) := gat_exps _ (by rw [← HS.out]; exact Nat.xor_lt_two_pow hMT HRT.out)
        have HDIV : Hid (pmod S (gat x1) t = R) := by rw [← HS.out, ← HM.out]; exact pmod_divides _ _ _ s _ hy1 hy2 hx2 hst hR
        clear hx hs hx1 hx2 hst hMT
        by_cases hr0 : R = 0
        · have HRL : Hid ((exps R).length = 0) := by rw [hr0, exps_zero]; exact rfl
          have HR0 : ∀ (w' : World) (p : Option Addr), Ints w' w'.heap.size p (exps R).length (exps R) → Ints w' w'.heap.size p 0 [] := fun w' p h => by
            rw [hr0, exps_zero] at h; exact h
          have HR00 := Lib.hid hr0
          clear hr0 hR hy hy1 hy2 hye ht
          have HSUM : Hid (gat (exps M) ^^^ gat [] = S) := by rw [HGM.out, ← HS.out, HR00.out]; exact rfl
          go_enter Try.func13, Try.ntmps13
          go_wp2_with fail
          refine (speaks2_any _).mono ?_
          rintro e v1 ⟨rfl, hu⟩
          have LA1 := Lib.hid (LA0.out.next hu)
          have LB1 := Lib.hid (LB0.out.next hu)
          have LC1 := Lib.hid (LC0.out.next hu)
          have HU1 := Lib.hid (HU0.out.trans hu)
          clear hu HU0 LA0 LB0 LC0
          go_wp2_with fail
          refine (copied_any a1 len1 cap1 _ x1 _ LB1.out (Nat.le_refl _) (by omega)).mono ?_
          rintro e v2 ⟨r2, rfl, ho, hu⟩
          obtain ⟨p2, c2, rfl, hi, m2, _⟩ := own_ints ho
          have CB2 := Lib.hid hi
          clear ho hi
          have LA2 := Lib.hid (LA1.out.next hu)
          have LB2 := Lib.hid (LB1.out.next hu)
          have LC2 := Lib.hid (LC1.out.next hu)
          have HU2 := Lib.hid (HU1.out.trans hu)
          clear hu HU1 LA1 LB1 LC1
          go_wp2_with fail
          refine (of_any p2 len1 c2 _ x1 _ CB2.out (Nat.le_refl _) m2).mono ?_
          rintro e v3 ⟨r3, rfl, hv, hu⟩
          obtain ⟨p3, c3, rfl, hi, m3, _⟩ := own_ints hv.1
          have Y3 := Lib.hid hi
          clear hv hi
          have LA3 := Lib.hid (LA2.out.next hu)
          have LB3 := Lib.hid (LB2.out.next hu)
          have LC3 := Lib.hid (LC2.out.next hu)
          have CB3 := Lib.hid (CB2.out.next hu)
          have HU3 := Lib.hid (HU2.out.trans hu)
          clear hu HU2 LA2 LB2 LC2 CB2
          go_wp2_with fail
          refine (copied_any a2 len2 cap2 _ x2 _ LC3.out (Nat.le_refl _) (by omega)).mono ?_
          rintro e v4 ⟨r4, rfl, ho, hu⟩
          obtain ⟨p4, c4, rfl, hi, m4, _⟩ := own_ints ho
          have CC4 := Lib.hid hi
          clear ho hi
          have LA4 := Lib.hid (LA3.out.next hu)
          have LB4 := Lib.hid (LB3.out.next hu)
          have LC4 := Lib.hid (LC3.out.next hu)
          have CB4 := Lib.hid (CB3.out.next hu)
          have Y4 := Lib.hid (Y3.out.next hu)
          have HU4 := Lib.hid (HU3.out.trans hu)
          clear hu HU3 LA3 LB3 LC3 CB3 Y3
          go_wp2_with fail
          refine (pmod_ok p4 len2 c4 _ x2 p3 _ c3 _ (exps (gat x1)) _ CC4.out (Nat.le_refl _) m4 Y4.out (Nat.le_refl _) m3 t HY1.out HY2.out HT.out).mono ?_
          rintro e v5 ⟨r5, rfl, hv, hu⟩
          rw [HY.out, HRd.out] at hv
          obtain ⟨p5, c5, rfl, hi, m5, _⟩ := own_ints hv.1
          have R5 := Lib.hid hi
          clear hv hi
          have LA5 := Lib.hid (LA4.out.next hu)
          have LB5 := Lib.hid (LB4.out.next hu)
          have LC5 := Lib.hid (LC4.out.next hu)
          have CB5 := Lib.hid (CB4.out.next hu)
          have Y5 := Lib.hid (Y4.out.next hu)
          have CC5 := Lib.hid (CC4.out.next hu)
          have HU5 := Lib.hid (HU4.out.trans hu)
          clear hu HU4 LA4 LB4 LC4 CB4 Y4 CC4
          rw [HRL.out]
          go_wp2_with fail
          refine (copied_any a0 len0 cap0 _ x0 _ LA5.out (Nat.le_refl _) (by omega)).mono ?_
          rintro e v6 ⟨r6, rfl, ho, hu⟩
          obtain ⟨p6, c6, rfl, hi, m6, _⟩ := own_ints ho
          have CA6 := Lib.hid hi
          clear ho hi
          have LA6 := Lib.hid (LA5.out.next hu)
          have LB6 := Lib.hid (LB5.out.next hu)
          have LC6 := Lib.hid (LC5.out.next hu)
          have CB6 := Lib.hid (CB5.out.next hu)
          have Y6 := Lib.hid (Y5.out.next hu)
          have CC6 := Lib.hid (CC5.out.next hu)
          have R6 := Lib.hid (R5.out.next hu)
          have HU6 := Lib.hid (HU5.out.trans hu)
          clear hu HU5 LA5 LB5 LC5 CB5 Y5 CC5 R5
          go_wp2_with fail
          refine (pmul_ok p6 len0 c6 _ x0 p3 _ c3 _ (exps (gat x1)) _ CA6.out (Nat.le_refl _) m6 Y6.out (Nat.le_refl _) m3 s t HX1.out HX2.out HY1.out HY2.out HST.out).mono ?_
          rintro e v7 ⟨r7, rfl, hv, hu⟩
          rw [HY.out, HM.out] at hv
          obtain ⟨p7, c7, rfl, hi, m7, _⟩ := own_ints hv.1
          have M7 := Lib.hid hi
          clear hv hi
          have LA7 := Lib.hid (LA6.out.next hu)
          have LB7 := Lib.hid (LB6.out.next hu)
          have LC7 := Lib.hid (LC6.out.next hu)
          have CB7 := Lib.hid (CB6.out.next hu)
          have Y7 := Lib.hid (Y6.out.next hu)
          have CC7 := Lib.hid (CC6.out.next hu)
          have R7 := Lib.hid (R6.out.next hu)
          have CA7 := Lib.hid (CA6.out.next hu)
          have HU7 := Lib.hid (HU6.out.trans hu)
          clear hu HU6 LA6 LB6 LC6 CB6 Y6 CC6 R6 CA6
          go_wp2_with fail
          go_quiet (fail)
          have hu : Upd noBlock v7 (v7.drewN nq) := (Upd.refl _ _).drewN nq
          have LA8 := Lib.hid (LA7.out.next hu)
          have LB8 := Lib.hid (LB7.out.next hu)
          have LC8 := Lib.hid (LC7.out.next hu)
          have CB8 := Lib.hid (CB7.out.next hu)
          have Y8 := Lib.hid (Y7.out.next hu)
          have CC8 := Lib.hid (CC7.out.next hu)
          have R8 := Lib.hid (R7.out.next hu)
          have CA8 := Lib.hid (CA7.out.next hu)
          have M8 := Lib.hid (M7.out.next hu)
          have HU8 := Lib.hid (HU7.out.trans hu)
          clear hu HU7 LA7 LB7 LC7 CB7 Y7 CC7 R7 CA7 M7
          go_wp2_with fail
          refine (add2_any p7 _ c7 _ (exps M) p5 0 c5 _ [] _ M8.out (Nat.le_refl _) m7 (HR0 _ _ R8.out) (Nat.le_refl _) (Nat.zero_le _)).mono ?_
          rintro e v8 ⟨r8, rfl, hv, hu⟩
          rw [HSUM.out] at hv
          obtain ⟨p8, c8, rfl, hi, m8, _⟩ := own_ints hv.1
          have S9 := Lib.hid hi
          clear hv hi
          have LA9 := Lib.hid (LA8.out.next hu)
          have LB9 := Lib.hid (LB8.out.next hu)
          have LC9 := Lib.hid (LC8.out.next hu)
          have CB9 := Lib.hid (CB8.out.next hu)
          have Y9 := Lib.hid (Y8.out.next hu)
          have CC9 := Lib.hid (CC8.out.next hu)
          have R9 := Lib.hid (R8.out.next hu)
          have CA9 := Lib.hid (CA8.out.next hu)
          have M9 := Lib.hid (M8.out.next hu)
          have HU9 := Lib.hid (HU8.out.trans hu)
          clear hu HU8 LA8 LB8 LC8 CB8 Y8 CC8 R8 CA8 M8
          go_wp2_with fail
          refine (pmod_ok p8 _ c8 _ (exps S) p3 _ c3 _ (exps (gat x1)) _ S9.out (Nat.le_refl _) m8 Y9.out (Nat.le_refl _) m3 t HY1.out HY2.out HT.out).mono ?_
          rintro e v9 ⟨r9, rfl, hv, hu⟩
          rw [HY.out, HGS.out, HDIV.out] at hv
          obtain ⟨p9, c9, rfl, hi, m9, _⟩ := own_ints hv.1
          have Q10 := Lib.hid hi
          clear hv hi
          have LA10 := Lib.hid (LA9.out.next hu)
          have LB10 := Lib.hid (LB9.out.next hu)
          have LC10 := Lib.hid (LC9.out.next hu)
          have CB10 := Lib.hid (CB9.out.next hu)
          have Y10 := Lib.hid (Y9.out.next hu)
          have CC10 := Lib.hid (CC9.out.next hu)
          have R10 := Lib.hid (R9.out.next hu)
          have CA10 := Lib.hid (CA9.out.next hu)
          have M10 := Lib.hid (M9.out.next hu)
          have S10 := Lib.hid (S9.out.next hu)
          have HU10 := Lib.hid (HU9.out.trans hu)
          clear hu HU9 LA9 LB9 LC9 CB9 Y9 CC9 R9 CA9 M9 S9
          rw [HRL.out]
          go_wp2_with fail
          refine (same_yes p9 0 c9 _ p5 c5 _ [] _ (HR0 _ _ Q10.out) (HR0 _ _ R10.out) (Nat.zero_le _)).mono ?_
          rintro e v10 ⟨rfl, hu⟩
          have LA11 := Lib.hid (LA10.out.next hu)
          have LB11 := Lib.hid (LB10.out.next hu)
          have LC11 := Lib.hid (LC10.out.next hu)
          have CB11 := Lib.hid (CB10.out.next hu)
          have Y11 := Lib.hid (Y10.out.next hu)
          have CC11 := Lib.hid (CC10.out.next hu)
          have R11 := Lib.hid (R10.out.next hu)
          have CA11 := Lib.hid (CA10.out.next hu)
          have M11 := Lib.hid (M10.out.next hu)
          have S11 := Lib.hid (S10.out.next hu)
          have Q11 := Lib.hid (Q10.out.next hu)
          have HU11 := Lib.hid (HU10.out.trans hu)
          clear hu HU10 LA10 LB10 LC10 CB10 Y10 CC10 R10 CA10 M10 S10 Q10
          go_wp2_with fail
          go_ret
          exact ⟨rfl, upd_ends HU11.out⟩
        · obtain ⟨u, _, hu1, _, hre⟩ := exps_head R hr0 HRT.out
          have hut : u < t := (Nat.pow_lt_pow_iff_right (by omega)).1 (Nat.lt_of_le_of_lt hu1 hR)
          have HRE := Lib.hid hre
          obtain ⟨nr, HNR⟩ : ∃ nr, Hid ((exps R).length = nr) := ⟨_, rfl⟩
          have hrl : Hid (0 < nr) := by show 0 < nr; rw [← HNR.out, hre]; simp
          have t1 : decide ((0 : Int) < (nr : Int)) = true := decide_eq_true (by have := hrl.out; omega)
          have t2 : decide ((t : Int) ≤ (u : Int)) = false := decide_eq_false (by omega)
          have t4 : decide (t ≤ u) = false := decide_eq_false (by omega)
          clear hr0 hR hy hy1 hy2 hye ht hu1 hre hut
          have HSUM : Hid (gat (exps M) ^^^ gat (exps R) = S) := by rw [HGR.out, HGM.out]; exact HS.out
          go_enter Try.func13, Try.ntmps13
          go_wp2_with fail
          refine (speaks2_any _).mono ?_
          rintro e v1 ⟨rfl, hu⟩
          have LA1 := Lib.hid (LA0.out.next hu)
          have LB1 := Lib.hid (LB0.out.next hu)
          have LC1 := Lib.hid (LC0.out.next hu)
          have HU1 := Lib.hid (HU0.out.trans hu)
          clear hu HU0 LA0 LB0 LC0
          go_wp2_with fail
          refine (copied_any a1 len1 cap1 _ x1 _ LB1.out (Nat.le_refl _) (by omega)).mono ?_
          rintro e v2 ⟨r2, rfl, ho, hu⟩
          obtain ⟨p2, c2, rfl, hi, m2, _⟩ := own_ints ho
          have CB2 := Lib.hid hi
          clear ho hi
          have LA2 := Lib.hid (LA1.out.next hu)
          have LB2 := Lib.hid (LB1.out.next hu)
          have LC2 := Lib.hid (LC1.out.next hu)
          have HU2 := Lib.hid (HU1.out.trans hu)
          clear hu HU1 LA1 LB1 LC1
          go_wp2_with fail
          refine (of_any p2 len1 c2 _ x1 _ CB2.out (Nat.le_refl _) m2).mono ?_
          rintro e v3 ⟨r3, rfl, hv, hu⟩
          obtain ⟨p3, c3, rfl, hi, m3, _⟩ := own_ints hv.1
          have Y3 := Lib.hid hi
          clear hv hi
          have LA3 := Lib.hid (LA2.out.next hu)
          have LB3 := Lib.hid (LB2.out.next hu)
          have LC3 := Lib.hid (LC2.out.next hu)
          have CB3 := Lib.hid (CB2.out.next hu)
          have HU3 := Lib.hid (HU2.out.trans hu)
          clear hu HU2 LA2 LB2 LC2 CB2
          go_wp2_with fail
          refine (copied_any a2 len2 cap2 _ x2 _ LC3.out (Nat.le_refl _) (by omega)).mono ?_
          rintro e v4 ⟨r4, rfl, ho, hu⟩
          obtain ⟨p4, c4, rfl, hi, m4, _⟩ := own_ints ho
          have CC4 := Lib.hid hi
          clear ho hi
          have LA4 := Lib.hid (LA3.out.next hu)
          have LB4 := Lib.hid (LB3.out.next hu)
          have LC4 := Lib.hid (LC3.out.next hu)
          have CB4 := Lib.hid (CB3.out.next hu)
          have Y4 := Lib.hid (Y3.out.next hu)
          have HU4 := Lib.hid (HU3.out.trans hu)
          clear hu HU3 LA3 LB3 LC3 CB3 Y3
          go_wp2_with fail
          refine (pmod_ok p4 len2 c4 _ x2 p3 _ c3 _ (exps (gat x1)) _ CC4.out (Nat.le_refl _) m4 Y4.out (Nat.le_refl _) m3 t HY1.out HY2.out HT.out).mono ?_
          rintro e v5 ⟨r5, rfl, hv, hu⟩
          rw [HY.out, HRd.out] at hv
          obtain ⟨p5, c5, rfl, hi, m5, _⟩ := own_ints hv.1
          rw [HNR.out] at hi m5
          rw [HNR.out]
          have R5 := Lib.hid hi
          clear hv hi
          have LA5 := Lib.hid (LA4.out.next hu)
          have LB5 := Lib.hid (LB4.out.next hu)
          have LC5 := Lib.hid (LC4.out.next hu)
          have CB5 := Lib.hid (CB4.out.next hu)
          have Y5 := Lib.hid (Y4.out.next hu)
          have CC5 := Lib.hid (CC4.out.next hu)
          have HU5 := Lib.hid (HU4.out.trans hu)
          clear hu HU4 LA4 LB4 LC4 CB4 Y4 CC4
          go_wp2_with fail
          refine (copied_any a0 len0 cap0 _ x0 _ LA5.out (Nat.le_refl _) (by omega)).mono ?_
          rintro e v6 ⟨r6, rfl, ho, hu⟩
          obtain ⟨p6, c6, rfl, hi, m6, _⟩ := own_ints ho
          have CA6 := Lib.hid hi
          clear ho hi
          have LA6 := Lib.hid (LA5.out.next hu)
          have LB6 := Lib.hid (LB5.out.next hu)
          have LC6 := Lib.hid (LC5.out.next hu)
          have CB6 := Lib.hid (CB5.out.next hu)
          have Y6 := Lib.hid (Y5.out.next hu)
          have CC6 := Lib.hid (CC5.out.next hu)
          have R6 := Lib.hid (R5.out.next hu)
          have HU6 := Lib.hid (HU5.out.trans hu)
          clear hu HU5 LA5 LB5 LC5 CB5 Y5 CC5 R5
          go_wp2_with fail
          refine (pmul_ok p6 len0 c6 _ x0 p3 _ c3 _ (exps (gat x1)) _ CA6.out (Nat.le_refl _) m6 Y6.out (Nat.le_refl _) m3 s t HX1.out HX2.out HY1.out HY2.out HST.out).mono ?_
          rintro e v7 ⟨r7, rfl, hv, hu⟩
          rw [HY.out, HM.out] at hv
          obtain ⟨p7, c7, rfl, hi, m7, _⟩ := own_ints hv.1
          have M7 := Lib.hid hi
          clear hv hi
          have LA7 := Lib.hid (LA6.out.next hu)
          have LB7 := Lib.hid (LB6.out.next hu)
          have LC7 := Lib.hid (LC6.out.next hu)
          have CB7 := Lib.hid (CB6.out.next hu)
          have Y7 := Lib.hid (Y6.out.next hu)
          have CC7 := Lib.hid (CC6.out.next hu)
          have R7 := Lib.hid (R6.out.next hu)
          have CA7 := Lib.hid (CA6.out.next hu)
          have HU7 := Lib.hid (HU6.out.trans hu)
          clear hu HU6 LA6 LB6 LC6 CB6 Y6 CC6 R6 CA6
          obtain ⟨gr, orr, rfl, _, hcr⟩ := R7.out.cell hrl.out
          obtain ⟨gy, oy, rfl, _, hcy⟩ := Y7.out.cell hyl.out
          have cr : v7.cell? ⟨gr, orr, none⟩ = some (.int .i64 (u : Int)) := by have := hcr 0 hrl.out; rw [HRE.out] at this; exact this
          have cy : v7.cell? ⟨gy, oy, none⟩ = some (.int .i64 (t : Int)) := by have := hcy 0 hyl.out; rw [HYE.out] at this; exact this
          clear hcr hcy
          have hq1 := hrl.out
          have hq2 := hyl.out
          have t3 : decide (0 < nr) = true := decide_eq_true hq1
          go_wp2_with fail
          go_quiet (fail)
          have hu : Upd noBlock v7 (v7.drewN nq) := (Upd.refl _ _).drewN nq
          clear cr cy hq1 hq2 t3
          have LA8 := Lib.hid (LA7.out.next hu)
          have LB8 := Lib.hid (LB7.out.next hu)
          have LC8 := Lib.hid (LC7.out.next hu)
          have CB8 := Lib.hid (CB7.out.next hu)
          have Y8 := Lib.hid (Y7.out.next hu)
          have CC8 := Lib.hid (CC7.out.next hu)
          have R8 := Lib.hid (R7.out.next hu)
          have CA8 := Lib.hid (CA7.out.next hu)
          have M8 := Lib.hid (M7.out.next hu)
          have HU8 := Lib.hid (HU7.out.trans hu)
          clear hu HU7 LA7 LB7 LC7 CB7 Y7 CC7 R7 CA7 M7
          go_wp2_with fail
          refine (add2_any p7 _ c7 _ (exps M) (some ⟨gr, orr, none⟩) _ c5 _ (exps R) _ M8.out (Nat.le_refl _) m7 R8.out (Nat.le_refl _) m5).mono ?_
          rintro e v8 ⟨r8, rfl, hv, hu⟩
          rw [HSUM.out] at hv
          obtain ⟨p8, c8, rfl, hi, m8, _⟩ := own_ints hv.1
          have S9 := Lib.hid hi
          clear hv hi
          have LA9 := Lib.hid (LA8.out.next hu)
          have LB9 := Lib.hid (LB8.out.next hu)
          have LC9 := Lib.hid (LC8.out.next hu)
          have CB9 := Lib.hid (CB8.out.next hu)
          have Y9 := Lib.hid (Y8.out.next hu)
          have CC9 := Lib.hid (CC8.out.next hu)
          have R9 := Lib.hid (R8.out.next hu)
          have CA9 := Lib.hid (CA8.out.next hu)
          have M9 := Lib.hid (M8.out.next hu)
          have HU9 := Lib.hid (HU8.out.trans hu)
          clear hu HU8 LA8 LB8 LC8 CB8 Y8 CC8 R8 CA8 M8
          go_wp2_with fail
          refine (pmod_ok p8 _ c8 _ (exps S) (some ⟨gy, oy, none⟩) _ c3 _ (exps (gat x1)) _ S9.out (Nat.le_refl _) m8 Y9.out (Nat.le_refl _) m3 t HY1.out HY2.out HT.out).mono ?_
          rintro e v9 ⟨r9, rfl, hv, hu⟩
          rw [HY.out, HGS.out, HDIV.out] at hv
          obtain ⟨p9, c9, rfl, hi, m9, _⟩ := own_ints hv.1
          rw [HNR.out] at hi m9
          rw [HNR.out]
          have Q10 := Lib.hid hi
          clear hv hi
          have LA10 := Lib.hid (LA9.out.next hu)
          have LB10 := Lib.hid (LB9.out.next hu)
          have LC10 := Lib.hid (LC9.out.next hu)
          have CB10 := Lib.hid (CB9.out.next hu)
          have Y10 := Lib.hid (Y9.out.next hu)
          have CC10 := Lib.hid (CC9.out.next hu)
          have R10 := Lib.hid (R9.out.next hu)
          have CA10 := Lib.hid (CA9.out.next hu)
          have M10 := Lib.hid (M9.out.next hu)
          have S10 := Lib.hid (S9.out.next hu)
          have HU10 := Lib.hid (HU9.out.trans hu)
          clear hu HU9 LA9 LB9 LC9 CB9 Y9 CC9 R9 CA9 M9 S9
          go_wp2_with fail
          refine (same_yes p9 _ c9 _ (some ⟨gr, orr, none⟩) c5 _ (exps R) _ Q10.out R10.out m9).mono ?_
          rintro e v10 ⟨rfl, hu⟩
          have LA11 := Lib.hid (LA10.out.next hu)
          have LB11 := Lib.hid (LB10.out.next hu)
          have LC11 := Lib.hid (LC10.out.next hu)
          have CB11 := Lib.hid (CB10.out.next hu)
          have Y11 := Lib.hid (Y10.out.next hu)
          have CC11 := Lib.hid (CC10.out.next hu)
          have R11 := Lib.hid (R10.out.next hu)
          have CA11 := Lib.hid (CA10.out.next hu)
          have M11 := Lib.hid (M10.out.next hu)
          have S11 := Lib.hid (S10.out.next hu)
          have Q11 := Lib.hid (Q10.out.next hu)
          have HU11 := Lib.hid (HU10.out.trans hu)
          clear hu HU10 LA10 LB10 LC10 CB10 Y10 CC10 R10 CA10 M10 S10 Q10
          go_wp2_with fail
          go_ret
          exact ⟨rfl, upd_ends HU11.out⟩
      · have hst2 : 16384 < s + t := by omega
        have HST := Lib.hid hst2
        have HS := Lib.hid hs
        obtain ⟨nr, HNR⟩ : ∃ nr, Hid ((exps R).length = nr) := ⟨_, rfl⟩
        clear hx hs hx1 hx2 hst hst2 hR hy hy1 hy2 hye ht
        go_enter Try.func13, Try.ntmps13
        go_wp2_with fail
        refine (speaks2_any _).mono ?_
        rintro e v1 ⟨rfl, hu⟩
        have LA1 := Lib.hid (LA0.out.next hu)
        have LB1 := Lib.hid (LB0.out.next hu)
        have LC1 := Lib.hid (LC0.out.next hu)
        have HU1 := Lib.hid (HU0.out.trans hu)
        clear hu HU0 LA0 LB0 LC0
        go_wp2_with fail
        refine (copied_any a1 len1 cap1 _ x1 _ LB1.out (Nat.le_refl _) (by omega)).mono ?_
        rintro e v2 ⟨r2, rfl, ho, hu⟩
        obtain ⟨p2, c2, rfl, hi, m2, _⟩ := own_ints ho
        have CB2 := Lib.hid hi
        clear ho hi
        have LA2 := Lib.hid (LA1.out.next hu)
        have LB2 := Lib.hid (LB1.out.next hu)
        have LC2 := Lib.hid (LC1.out.next hu)
        have HU2 := Lib.hid (HU1.out.trans hu)
        clear hu HU1 LA1 LB1 LC1
        go_wp2_with fail
        refine (of_any p2 len1 c2 _ x1 _ CB2.out (Nat.le_refl _) m2).mono ?_
        rintro e v3 ⟨r3, rfl, hv, hu⟩
        obtain ⟨p3, c3, rfl, hi, m3, _⟩ := own_ints hv.1
        have Y3 := Lib.hid hi
        clear hv hi
        have LA3 := Lib.hid (LA2.out.next hu)
        have LB3 := Lib.hid (LB2.out.next hu)
        have LC3 := Lib.hid (LC2.out.next hu)
        have CB3 := Lib.hid (CB2.out.next hu)
        have HU3 := Lib.hid (HU2.out.trans hu)
        clear hu HU2 LA2 LB2 LC2 CB2
        go_wp2_with fail
        refine (copied_any a2 len2 cap2 _ x2 _ LC3.out (Nat.le_refl _) (by omega)).mono ?_
        rintro e v4 ⟨r4, rfl, ho, hu⟩
        obtain ⟨p4, c4, rfl, hi, m4, _⟩ := own_ints ho
        have CC4 := Lib.hid hi
        clear ho hi
        have LA4 := Lib.hid (LA3.out.next hu)
        have LB4 := Lib.hid (LB3.out.next hu)
        have LC4 := Lib.hid (LC3.out.next hu)
        have CB4 := Lib.hid (CB3.out.next hu)
        have Y4 := Lib.hid (Y3.out.next hu)
        have HU4 := Lib.hid (HU3.out.trans hu)
        clear hu HU3 LA3 LB3 LC3 CB3 Y3
        go_wp2_with fail
        refine (pmod_ok p4 len2 c4 _ x2 p3 _ c3 _ (exps (gat x1)) _ CC4.out (Nat.le_refl _) m4 Y4.out (Nat.le_refl _) m3 t HY1.out HY2.out HT.out).mono ?_
        rintro e v5 ⟨r5, rfl, hv, hu⟩
        rw [HY.out, HRd.out] at hv
        obtain ⟨p5, c5, rfl, hi, m5, _⟩ := own_ints hv.1
        rw [HNR.out] at hi m5
        rw [HNR.out]
        have R5 := Lib.hid hi
        clear hv hi
        have LA5 := Lib.hid (LA4.out.next hu)
        have LB5 := Lib.hid (LB4.out.next hu)
        have LC5 := Lib.hid (LC4.out.next hu)
        have CB5 := Lib.hid (CB4.out.next hu)
        have Y5 := Lib.hid (Y4.out.next hu)
        have CC5 := Lib.hid (CC4.out.next hu)
        have HU5 := Lib.hid (HU4.out.trans hu)
        clear hu HU4 LA4 LB4 LC4 CB4 Y4 CC4
        go_wp2_with fail
        refine (copied_any a0 len0 cap0 _ x0 _ LA5.out (Nat.le_refl _) (by omega)).mono ?_
        rintro e v6 ⟨r6, rfl, ho, hu⟩
        obtain ⟨p6, c6, rfl, hi, m6, _⟩ := own_ints ho
        have CA6 := Lib.hid hi
        clear ho hi
        have LA6 := Lib.hid (LA5.out.next hu)
        have LB6 := Lib.hid (LB5.out.next hu)
        have LC6 := Lib.hid (LC5.out.next hu)
        have CB6 := Lib.hid (CB5.out.next hu)
        have Y6 := Lib.hid (Y5.out.next hu)
        have CC6 := Lib.hid (CC5.out.next hu)
        have R6 := Lib.hid (R5.out.next hu)
        have HU6 := Lib.hid (HU5.out.trans hu)
        clear hu HU5 LA5 LB5 LC5 CB5 Y5 CC5 R5
        go_wp2_with fail
        refine (pmul_big p6 len0 c6 _ x0 p3 _ c3 _ (exps (gat x1)) _ CA6.out (Nat.le_refl _) m6 Y6.out (Nat.le_refl _) m3 s t HX1.out HX2.out HY1.out HY2.out HS.out HT.out HST.out).mono ?_
        rintro e v7 ⟨rfl, hu⟩
        have LA7 := Lib.hid (LA6.out.next hu)
        have LB7 := Lib.hid (LB6.out.next hu)
        have LC7 := Lib.hid (LC6.out.next hu)
        have CB7 := Lib.hid (CB6.out.next hu)
        have Y7 := Lib.hid (Y6.out.next hu)
        have CC7 := Lib.hid (CC6.out.next hu)
        have R7 := Lib.hid (R6.out.next hu)
        have CA7 := Lib.hid (CA6.out.next hu)
        have HU7 := Lib.hid (HU6.out.trans hu)
        clear hu HU6 LA6 LB6 LC6 CB6 Y6 CC6 R6 CA6
        go_wp2_with fail
        go_ret
        exact ⟨rfl, upd_ends HU7.out⟩
end Go.Proofs.Ytfahibnbfinibaa
