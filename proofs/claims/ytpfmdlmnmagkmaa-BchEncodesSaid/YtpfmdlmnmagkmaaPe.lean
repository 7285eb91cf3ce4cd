/- Walks over package poly: Mul. -/
import Derived.Test.YtpfmdlmnmagkmaaPd
namespace Go.Proofs.Ytpfmdlmnmagkmaa
open Go.RowKit Pm

theorem exps_head (P : Nat) (h0 : P ≠ 0) (h : P < 2 ^ top) : ∃ t : Nat, t ≤ 16384 ∧ 2 ^ t ≤ P ∧ P < 2 ^ (t + 1) ∧ exps P = (t : Int) :: exps (P ^^^ 2 ^ t) := by
  obtain ⟨t, h1, h2⟩ : ∃ t : Nat, 2 ^ t ≤ P ∧ P < 2 ^ (t + 1) := ⟨Nat.log2 P, Nat.log2_self_le h0, Nat.lt_log2_self⟩
  have ht : t ≤ 16384 := by
    rcases Nat.lt_or_ge 16384 t with hh | hh
    · have := Nat.pow_le_pow_right (n := 2) (by omega) (show top ≤ t by unfold top; omega)
      omega
    · exact hh
  exact ⟨t, ht, h1, h2, exps_top P t h1 h2 ht⟩
theorem exps_nil (P : Nat) (h : P < 2 ^ top) : exps P = [] ↔ P = 0 := by
  constructor
  · intro e
    rcases Nat.eq_zero_or_pos P with h0 | h0
    · exact h0
    · obtain ⟨t, _, _, _, e2⟩ := exps_head P (by omega) h
      rw [e2] at e; cases e
  · rintro rfl; exact exps_zero
theorem exps_mem (e : Int) (Q t : Nat) (h : e ∈ exps Q) (hQ : Q < 2 ^ (t + 1)) (ht : t ≤ 16384) : 0 ≤ e ∧ e ≤ t := by
  have e1 : exps Q = lst (t + 1) Q := lst_up _ _ _ hQ (by unfold top; omega)
  rw [e1] at h
  have := lst_bound (t + 1) Q e h
  omega

/-- the product: the sum of shifts -/
def cm (l : List Int) (B : Nat) : Nat := l.foldl (fun P e => P ^^^ B * 2 ^ e.toNat) 0
theorem cm_take (l : List Int) (B k : Nat) (h : k < l.length) : cm (l.take (k + 1)) B = cm (l.take k) B ^^^ B * 2 ^ (l.getD k 0).toNat := by
  rw [List.take_succ_eq_append_getElem h]
  unfold cm
  rw [List.foldl_append]
  have e : l.getD k 0 = l[k] := by rw [List.getD_eq_getElem?_getD, List.getElem?_eq_getElem h]; rfl
  rw [e]; rfl
theorem cm_lt (l : List Int) (B s n : Nat) (hB : B < 2 ^ (s + 1)) (h : ∀ e ∈ l, e.toNat + s + 1 ≤ n) : cm l B < 2 ^ n := by
  have key : ∀ (l : List Int) (P : Nat), P < 2 ^ n → (∀ e ∈ l, e.toNat + s + 1 ≤ n) → l.foldl (fun P e => P ^^^ B * 2 ^ e.toNat) P < 2 ^ n := by
    intro l
    induction l with
    | nil => intro P hP _; exact hP
    | cons e l ih =>
      intro P hP hl
      refine ih _ (Nat.xor_lt_two_pow hP ?_) (fun x hx => hl x (List.mem_cons_of_mem _ hx))
      have h1 := hl e List.mem_cons_self
      have h2 : B * 2 ^ e.toNat < 2 ^ (s + 1) * 2 ^ e.toNat := Nat.mul_lt_mul_of_pos_right hB (Nat.two_pow_pos _)
      rw [← Nat.pow_add] at h2
      exact Nat.lt_of_lt_of_le h2 (Nat.pow_le_pow_right (by omega) (by omega))
  exact key l 0 (Nat.two_pow_pos _) h

/-- a product that is not too great -/
def pmul (A B : Nat) : Nat := cm (exps A) B

set_option maxRecDepth 20000 in
set_option maxHeartbeats 1600000 in
theorem pmul_ok (a : Option Addr) (len cap B : Nat) (xs : List Int) (a' : Option Addr) (len' cap' B' : Nat) (ys : List Int) (w : World) (hr : Ints w B a len xs) (hB : B ≤ w.heap.size) (hm : len ≤ maxLen)
    (hr' : Ints w B' a' len' ys) (hB' : B' ≤ w.heap.size) (hm' : len' ≤ maxLen) (s t : Nat) (hs1 : 2 ^ s ≤ gat xs) (hs2 : gat xs < 2 ^ (s + 1)) (ht1 : 2 ^ t ≤ gat ys) (ht2 : gat ys < 2 ^ (t + 1)) (hst : s + t ≤ 16384) :
    Calls Try.prog 45 #[.slice a len cap, .slice a' len' cap'] w fun e w' => ∃ v, e = .returned (.tuple #[v, .bool true]) ∧ PolyV w w' v (pmul (gat xs) (gat ys)) ∧ Upd noBlock w w' := by
  have HR := Lib.hid hr
  have HR' := Lib.hid hr'
  have hp : pmul (gat xs) (gat ys) < 2 ^ top := cm_lt _ _ t _ ht2 (fun e he => by
    have := exps_mem e _ s he hs2 (by omega)
    unfold top; omega)
  have HP := Lib.hid hp
  have hx := exps_top (gat xs) s hs1 hs2 (by omega)
  have hy := exps_top (gat ys) t ht1 ht2 (by omega)
  have HX := Lib.hid hx
  have HY := Lib.hid hy
  have HS2 := Lib.hid hs2
  clear hr hr' hp hx hy hs1 ht1 ht2 hs2
  go_enter Try.func45, Try.ntmps45
  go_wp2_with fail
  refine (of_any a len cap B xs _ HR.out hB hm).mono ?_
  rintro e w1 ⟨v1, rfl, hv1, hu1⟩
  have HU1 := Lib.hid hu1
  have HV1 := Lib.hid hv1
  clear hu1 hv1
  go_wp2_with fail
  refine (of_any a' len' cap' B' ys _ (HR'.out.grow HU1.out hB') (Nat.le_trans hB' HU1.out.size) hm').mono ?_
  rintro e w2 ⟨v2, rfl, hv2, hu2⟩
  have HU2 := Lib.hid (HU1.out.trans hu2)
  have hsz12 := hu2.size
  obtain ⟨p1, c1, rfl, hi1, hm1, hb1⟩ := own_ints HV1.out.1
  obtain ⟨p2, c2, rfl, hi2, hm2, hb2⟩ := own_ints hv2.1
  have hi1' := hi1.grow hu2 (Nat.le_refl _)
  obtain ⟨g1, o1, rfl, hg1, hc1⟩ := hi1'.cell (by rw [HX.out]; simp)
  obtain ⟨g2, o2, rfl, hg2, hc2⟩ := hi2.cell (by rw [HY.out]; simp)
  have d1 : w2.cell? ⟨g1, o1, none⟩ = some (.int .i64 (s : Int)) := by have := hc1 0 (by rw [HX.out]; simp); rw [HX.out] at this; exact this
  have d2 : w2.cell? ⟨g2, o2, none⟩ = some (.int .i64 (t : Int)) := by have := hc2 0 (by rw [HY.out]; simp); rw [HY.out] at this; exact this
  have hl1 : 0 < (exps (gat xs)).length := by rw [HX.out]; simp
  have hl2 : 0 < (exps (gat ys)).length := by rw [HY.out]; simp
  have HI1 := Lib.hid hi1'
  have HI2 := Lib.hid hi2
  clear hi1 hi1' hi2 hb1 hb2 hc1 hc2 hu2 hv2 HV1
  generalize hn1 : (exps (gat xs)).length = n1 at *
  generalize hn2 : (exps (gat ys)).length = n2 at *
  have HN1 := Lib.hid hn1
  have HN2 := Lib.hid hn2
  clear hn1 hn2
  have t1 : ((n1 : Int) == 0) = false := beq_eq_false_iff_ne.2 (by omega)
  have t2 : ((n2 : Int) == 0) = false := beq_eq_false_iff_ne.2 (by omega)
  have t3 : decide ((16384 : Int) < (s : Int) + (t : Int)) = false := by simp; omega
  have t4 : IntKind.i64.wrap ((s : Int) + (t : Int)) = (s : Int) + (t : Int) := IntWalk.i64_in _ (by omega)
  have HST := Lib.hid hst
  clear hst
  go_wp2_with fail
  go_quiet (fail)
  have HC : Hid (Coef ((w2.alloc (.cells Try.zeroCells111 111)).drewN nq) w2.heap.size 0) := Coef.new w2
  have HU3 : Hid (Upd noBlock w ((w2.alloc (.cells Try.zeroCells111 111)).drewN nq)) := (HU2.out.alloc _).drewN nq
  have HI3 : Hid (Ints ((w2.alloc (.cells Try.zeroCells111 111)).drewN nq) w1.heap.size (some ⟨g1, o1, none⟩) n1 (exps (gat xs))) := HI1.out.grow (((Upd.refl noBlock w2).alloc _).drewN nq) (by omega)
  have HI4 : Hid (Ints ((w2.alloc (.cells Try.zeroCells111 111)).drewN nq) w2.heap.size (some ⟨g2, o2, none⟩) n2 (exps (gat ys))) := HI2.out.grow (((Upd.refl noBlock w2).alloc _).drewN nq) (Nat.le_refl _)
  have hsz2 := HU2.out.size
  clear HI1 HI2 d1 d2
  go_wp2_with fail
  refine (gather_any _ n2 c2 w2.heap.size (exps (gat ys)) _ HI4.out (by simp) hm2).mono ?_
  rintro e w4 ⟨rfl, hu4⟩
  rw [gat_exps _ (gat_lt ys)]
  have hsz4 := hu4.size
  have hsz5 : w2.heap.size + 1 ≤ w4.heap.size := by simpa using hsz4
  have HC4 := Lib.hid ((HC.out.upd hu4 (fun h => h)).alloc (.cells Try.zeroCells111 111))
  have HD4 := Lib.hid (Coef.new w4)
  have HU4 := Lib.hid ((HU3.out.trans hu4).alloc (.cells Try.zeroCells111 111))
  have HI5 := Lib.hid ((HI3.out.grow hu4 (by simp; omega)).grow ((Upd.refl noBlock w4).alloc (.cells Try.zeroCells111 111)) (by omega))
  clear hu4 hsz4 HI4 HI3 HC HU3
  go_wp2_with (refine wpList_store_row rfl 111 (.tmp 7) (.tmp 31) rfl w4.heap.size (wordsA (gat ys)) rfl rfl 111 (wordsA 0) HD4.out (wordsA_info _) (by rw [wordsA_size, wordsA_size]) (wordsA_one _) ?_)
  have HC5 := Lib.hid (HC4.out.rowOther (g := w4.heap.size) (by omega) (wordsA (gat ys)))
  have HD5 := Lib.hid (HD4.out.row (Q := gat ys))
  have HI6 := Lib.hid (HI5.out.keep (w' := (w4.alloc (.cells Try.zeroCells111 111)).setRow w4.heap.size (wordsA (gat ys))) (fun g _ hg => setRow_other _ _ _ _ (by omega)))
  have HU5 := Lib.hid (HU4.out.setRow (g := w4.heap.size) (.inr (by omega)) (wordsA (gat ys)))
  have hmem : ∀ k, k < n1 → 0 ≤ (exps (gat xs)).getD k 0 ∧ (exps (gat xs)).getD k 0 ≤ 16384 := fun k hk => by
    have hl : k < (exps (gat xs)).length := by rw [HN1.out]; exact hk
    have e : (exps (gat xs)).getD k 0 = (exps (gat xs))[k] := by rw [List.getD_eq_getElem?_getD, List.getElem?_eq_getElem hl]; rfl
    have h := exps_mem _ (gat xs) s (List.getElem_mem hl) HS2.out (by have := HST.out; omega)
    rw [e]
    have := HST.out
    omega
  have HM := Lib.hid hmem
  have hn1 : n1 ≤ 9223372036854775807 := by unfold maxLen at hm1; omega
  clear hmem HC4 HD4 HI5 HU4 hm1 hm2 HU2 t3 t4
  go_loopw [34] (fun i wr => ∃ k : Nat, k ≤ n1 ∧ i = .int .i64 (k : Int) ∧ Hid (Coef wr w2.heap.size (cm ((exps (gat xs)).take k) (gat ys))) ∧ Hid (Coef wr w4.heap.size (gat ys)) ∧ Hid (Ints wr w1.heap.size (some ⟨g1, o1, none⟩) n1 (exps (gat xs))) ∧ Hid (Upd noBlock w wr)) (fun i _ => n1 - (intOf i).toNat)
  case atStart => exact ⟨0, Nat.zero_le _, rfl, HC5, HD5, HI6, HU5⟩
  case round =>
    clear HC5 HD5 HI6 HU5
    obtain ⟨k, hk, rfl, HC, HD, HI, HU⟩ := hrel
    by_cases h0 : k < n1
    · obtain ⟨g', o', hgo, hg', hcell⟩ := HI.out.cell (by omega)
      obtain ⟨rfl, rfl⟩ : g1 = g' ∧ o1 = o' := by simpa using hgo
      have c1 := hcell k h0
      have hm := HM.out k h0
      have hstep := cm_take (exps (gat xs)) (gat ys) k (by rw [HN1.out]; exact h0)
      generalize (exps (gat xs)).getD k 0 = z at c1 hm hstep
      obtain ⟨m, rfl⟩ := Int.eq_ofNat_of_zero_le hm.1
      have HM16 : Hid (m ≤ 16384) := by have := hm.2; show m ≤ 16384; omega
      rw [Int.toNat_natCast] at hstep
      have HS := Lib.hid hstep
      clear hstep hm hcell hgo
      go_wp2_with fail
      refine (add_any w2.heap.size w4.heap.size _ _ m _ HC.out HD.out (by omega) HM16.out).mono ?_
      rintro e w5 ⟨rfl, hc, hd, hu⟩
      have HC5 : Hid (Coef w5 w2.heap.size (cm ((exps (gat xs)).take (k + 1)) (gat ys))) := by rw [HS.out]; exact hc
      have HD5 := Lib.hid hd
      have HI5 := Lib.hid (HI.out.upd hu (by have := HC.out.lt; omega) (fun g hg hgB e => by have e' : g = w2.heap.size := e; omega))
      have HU5 := Lib.hid (HU.out.step hu (fun i hi e => by have e' : i = w2.heap.size := e; omega))
      clear hc hd hu
      go_wp2_with fail
      go_roundw
      case rel => exact ⟨k + 1, by omega, by go_num, HC5, HD5, HI5, HU5⟩
      case measure => simp [intOf]; omega
    · obtain rfl : k = n1 := by omega
      have e : cm ((exps (gat xs)).take k) (gat ys) = pmul (gat xs) (gat ys) := by
        rw [List.take_of_length_le (by have := HN1.out; omega)]; rfl
      rw [e] at HC
      clear e HI
      go_wp2_with fail
      refine (poly_any w2.heap.size _ _ HC.out HP.out).mono ?_
      rintro e w5 ⟨v, rfl, ho, hu⟩
      have HO := Lib.hid (own_more ho HU.out.size)
      have HU5 := Lib.hid (HU.out.trans hu)
      clear ho hu
      go_wp2_with fail
      go_ret2
      exact ⟨_, rfl, ⟨HO.out, HP.out⟩, HU5.out⟩
end Go.Proofs.Ytpfmdlmnmagkmaa
