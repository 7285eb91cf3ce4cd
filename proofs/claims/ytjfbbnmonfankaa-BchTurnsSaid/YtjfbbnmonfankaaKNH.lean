/- syndromes. -/
import Derived.Test.YtjfbbnmonfankaaKGNE
import Derived.Test.YtjfbbnmonfankaaKGNA
namespace Go.Proofs.Ytjfbbnmonfankaa
open Go.RowKit Pm F
set_option linter.unusedVariables false

/-- the sum of powers at exponents -/
def esF (K : Nat) : List Int → F | [] => 0 | e :: l => alI ((K : Int) * e) + esF K l
theorem esF_append (K : Nat) (a b : List Int) : esF K (a ++ b) = esF K a + esF K b := by
  induction a with
  | nil => exact (zero_add _).symm
  | cons e a ih => show _ + esF K (a ++ b) = (_ + esF K a) + _; rw [ih, add_assoc]
theorem esF_take (K : Nat) (l : List Int) (q : Nat) (h : q < l.length) : esF K (l.take (q + 1)) = esF K (l.take q) + alI ((K : Int) * l.getD q 0) := by
  rw [List.take_succ_eq_append_getElem h, esF_append, List.getD_eq_getElem?_getD, List.getElem?_eq_getElem h]
  show _ + (_ + 0) = _
  rw [add_zero]; rfl
theorem exq_sum (r : Rm) (d K : Nat) : ∀ q, sm (fun j => fx (rb r j) (al (K * (d - 1 - j)))) q = esF K (exq r d q) := by
  intro q
  induction q with
  | zero => rfl
  | succ q ih =>
    show sm _ q + fx (rb r q) _ = esF K (if rb r q then _ else _)
    rw [ih]
    cases rb r q
    · exact add_zero _
    · rw [if_pos rfl, esF_append]
      congr 1
      show al _ = alI _ + 0
      rw [add_zero, ← Int.natCast_mul, alI_nat]
theorem evR_exq (r : Rm) (d K : Nat) : evR d K r = esF K (exq r d d) := exq_sum r d K d
theorem exq_small (r : Rm) (d q : Nat) : ∀ i, i < (exq r d q).length → ∃ e : Nat, (exq r d q).getD i 0 = (e : Int) ∧ e ≤ d := by
  induction q with
  | zero => intro i hi; exact absurd hi (by simp [exq])
  | succ q ih =>
    unfold exq
    split
    · intro i hi
      by_cases h : i < (exq r d q).length
      · obtain ⟨e, h1, h2⟩ := ih i h
        exact ⟨e, by rw [← h1, List.getD_eq_getElem?_getD, List.getElem?_append_left h, ← List.getD_eq_getElem?_getD], h2⟩
      · rw [List.length_append] at hi
        have : i = (exq r d q).length := by simp at hi; omega
        exact ⟨d - 1 - q, by rw [this, List.getD_eq_getElem?_getD, List.getElem?_append_right (Nat.le_refl _), Nat.sub_self]; rfl, by omega⟩
    · exact ih
/-- the first j syndromes -/
def sq (S : Nat → F) (j i : Nat) : F := if i < j then S i else 0
theorem sq_set (S : Nat → F) (n j : Nat) : (il n (sq S j)).set j ((S j).1 : Int) = il n (sq S (j + 1)) := by
  rw [il_set]
  refine il_congr fun i _ => ?_
  unfold sq
  by_cases h : i = j
  · rw [if_pos h, if_pos (by omega), h]
  · rw [if_neg h]
    by_cases h2 : i < j
    · rw [if_pos h2, if_pos (by omega)]
    · rw [if_neg h2, if_neg (by omega)]
theorem sq_self (S : Nat → F) (n j : Nat) (h : j < n) : (il n (sq S j)).set j ((0 : F).1 : Int) = il n (sq S j) := by
  rw [il_set]
  refine il_congr fun i _ => ?_
  split
  · rename_i e; unfold sq; rw [if_neg (by omega)]
  · rfl
set_option maxRecDepth 100000 in
set_option maxHeartbeats 6400000 in
theorem syndromes_any (B c t : Nat) (k : Int) (r : Rm) (w : World) (h : MadeB B w c t k) (hBw : B ≤ w.heap.size) (hr : r.Ok) (ht1 : 1 ≤ t) (ht8 : t ≤ 8) (hz : ∀ j, 13 * t ≤ j → rb r j = false) :
    Calls Try.prog 40 #[.pointer (some ⟨c, 0, none⟩), r.agg] w fun e w' => ∃ u, e = .returned u ∧ OwnI w' B u (il (2 * t) fun j => evR (13 * t) (j + 1) r) ∧ MadeB B w' c t k ∧ Upd (oneBlock c) w w' := by
  have hcB := h.lt
  obtain ⟨d, hd⟩ : ∃ d, 13 * t = d := ⟨_, rfl⟩
  have hd104 : d ≤ 104 := by omega
  have HEXPS := Lib.hid (fun W => exponents_any r d W hr (by omega) (fun j hj => hz j (by omega)))
  have HSM := Lib.hid (exq_small r d d)
  have HLL := Lib.hid (exq_length r d d)
  have HEV : Hid (∀ j, evR d (j + 1) r = esF (j + 1) (exq r d d)) := fun j => evR_exq r d (j + 1)
  have HTW : Hid (∀ m, evR d (2 * m) r = evR d m r * evR d m r) := fun m => evR_two d m r
  have HD : Hid (∀ W, Upd noBlock w W → W.cell? ⟨c, 11, none⟩ = some (.int .i64 (d : Int))) := fun W hW => by rw [← hd]; exact (h.grow hW).made.deg
  have HT : Hid (∀ W, Upd noBlock w W → W.cell? ⟨c, 0, none⟩ = some (.int .i64 (t : Int))) := fun W hW => (h.grow hW).made.t
  have HM := Lib.hid h
  rw [hd]
  obtain ⟨n, hn⟩ : ∃ n, 2 * t = n := ⟨_, rfl⟩
  have hn16 : n ≤ 16 := by omega
  have hmk : ∀ w : World, (Instr.makeSlice 34 (.int .i64 (n : Int)) (.int .i64 (n : Int))).run Try.prog w = .ok (.slice (some ⟨w.heap.size, 0, none⟩) n n) (w.alloc (.cells (madeCells #[.int .i64 0] n) 3)) :=
    run_make_row' (P := Try.prog) 34 3 (.int .i64 0) 8 Try.underlying34 intMade rfl .i64 .i64 n (by omega) (by omega)
  have hw0 : IntKind.i64.wrap (2 * (t : Int)) = (n : Int) := by rw [IntKind.wrap_i64]; omega
  rw [hn]
  have HN : Hid (2 * t = n) := hn
  obtain ⟨S, hS⟩ : ∃ S : Nat → F, S = fun j => evR d (j + 1) r := ⟨_, rfl⟩
  have HSJ : Hid (∀ j, S j = evR d (j + 1) r) := fun j => by rw [hS]
  rw [← hS]
  clear hS
  clear hd hn hz h
  unfold Rm.agg at HEXPS ⊢
  go_enter Try.func40, Try.ntmps40
  go_wp2_with fail
  obtain ⟨wa, hwa⟩ : ∃ wa, wa = w.alloc (.cells #[.int .u64 (r.h : Int), .int .u64 (r.l : Int)] 64) := ⟨_, rfl⟩
  have HUA : Hid (Upd noBlock w wa) := by rw [hwa]; exact (Upd.refl _ _).alloc _
  have hba : RB wa w.heap.size r := by rw [hwa]; exact heap_alloc_new w _
  have HBA := Lib.hid hba
  rw [← hwa]
  have a1 : wa.drew.cell? ⟨w.heap.size, 0, none⟩ = some (.int .u64 (r.h : Int)) := hba.h
  have a2 : wa.drew.cell? ⟨w.heap.size, 1, none⟩ = some (.int .u64 (r.l : Int)) := hba.l
  have a3 : wa.drew.cell? ⟨c, 11, none⟩ = some (.int .i64 (d : Int)) := HD.out wa HUA.out
  clear hwa hba
  go_region_with (go_at_call 57; refine (HEXPS.out _).mono ?_; rintro e w1 ⟨u5, rfl, ho5, hu5⟩; have O5 := Lib.hid ho5; have U5 : Hid (Upd noBlock w w1) := HUA.out.trans (((Upd.refl noBlock wa).drew).trans hu5); have k0 := HT.out w1 U5.out; clear ho5 hu5)
  all_goals
    have O5B := Lib.hid (O5.out.more (B' := B) (Nat.le_trans hBw (by have h1 := HUA.out.size; first | exact h1 | exact Nat.le_refl _)))
    have M1 := Lib.hid (HM.out.grow U5.out)
    obtain ⟨O, HOE⟩ : ∃ O : Obj, Hid (O = .cells (madeCells #[.int .i64 0] n) 3) := ⟨_, rfl⟩
    rw [← HOE.out] at hmk
    have UM : Hid (Upd noBlock w1 (w1.alloc O)) := (Upd.refl _ _).alloc _
    have HS0 : Hid (∀ S : Nat → F, OwnI (w1.alloc O) w1.heap.size (.slice (some ⟨w1.heap.size, 0, none⟩) n n) (il n (sq S 0))) := fun S => by
      have e0 : il n (sq S 0) = il n (fun _ => 0) := il_congr fun i _ => if_neg (Nat.not_lt_zero i)
      rw [HOE.out, e0]
      exact made_il w1 w1.heap.size n (Nat.le_refl _) (by unfold maxLen; omega)
    have hB1 : B ≤ w1.heap.size := Nat.le_trans hBw U5.out.size
    obtain ⟨sa, sc, hsl, _, _, _⟩ := O5.out.sl
    obtain ⟨ln, hln⟩ : ∃ ln, (exq r d d).length = ln := ⟨_, rfl⟩
    rw [hln] at hsl
    subst hsl
    have HLN : Hid ((exq r d d).length = ln) := hln
    have hlnd : ln ≤ 104 := by have := HLL.out; omega
    clear a1 a2 a3 O5 hln
    go_wp2
    obtain ⟨wb, hwb⟩ : ∃ wb, wb = w1.alloc O := ⟨_, rfl⟩
    rw [← hwb] at UM HS0
    rw [← hwb]
    clear hmk hwb HOE
    go_loopw [26] (fun i wr => ∃ j : Nat, j ≤ n ∧ i = .int .i64 (j : Int) ∧ Hid (OwnI wr w1.heap.size (.slice (some ⟨w1.heap.size, 0, none⟩) n n) (il n (sq S j))) ∧ Hid (MadeB B wr c t k) ∧ Hid (Upd (oneBlock c) w1 wr)) (fun i _ => n - (intOf i).toNat)
    case atStart => exact ⟨0, Nat.zero_le _, rfl, HS0.out _, M1.out.grow UM.out, UM.out.one⟩
    case round =>
      clear HS0 UM
      obtain ⟨j, hj, rfl, HO, HMR, HU⟩ := hrel
      by_cases h0 : j < n
      · have HSET := Lib.hid (sq_set S n j)
        have hw1 : IntKind.i64.wrap ((j : Int) + 1) = ((j + 1 : Nat) : Int) := by rw [IntKind.wrap_i64]; omega
        obtain ⟨K, hK⟩ : ∃ K, j + 1 = K := ⟨_, rfl⟩
        have HK : Hid (j + 1 = K) := hK
        rw [hK] at hw1
        have hK16 : K ≤ 16 := by omega
        by_cases hev : K % 2 = 0
        · have hr2 : ((K : Int) % 2 == 0) = true := beq_iff_eq.2 (by omega)
          obtain ⟨m, hm⟩ : ∃ m, K / 2 = m + 1 := ⟨K / 2 - 1, by omega⟩
          have hq2 : (K : Int) / 2 = ((m + 1 : Nat) : Int) := by omega
          have hw2 : IntKind.i64.wrap (((m + 1 : Nat) : Int) - 1) = (m : Int) := by rw [IntKind.wrap_i64]; omega
          have hmj : m < j := by omega
          have hmn : m < n := by omega
          have HSQ : Hid (S j = S m * S m) := by
            show _ = _
            rw [HSJ.out j, HSJ.out m, ← HTW.out (m + 1)]
            congr 1
            omega
          obtain ⟨_, _, e2, _, _, q2, _, _⟩ := HO.out.cells (by rw [il_length]; omega)
          rw [il_length] at e2 q2
          cases e2
          have p2 := q2 m hmn
          rw [il_getD n _ m hmn, show sq S j m = S m from if_pos hmj] at p2
          have HMU := Lib.hid (fun W hW => mul_F B c t k (S m) (S m) W hW)
          have HLD : Hid (∀ W, Upd (oneBlock c) wr W → (∃ u, W.cell? ⟨w1.heap.size, j, none⟩ = some u) ∧ W.frozen? ⟨w1.heap.size, j, none⟩ = false ∧ OwnI (W.setCell ⟨w1.heap.size, j, none⟩ (.int .i64 ((S m * S m).1 : Int))) w1.heap.size (.slice (some ⟨w1.heap.size, 0, none⟩) n n) (il n (sq S (j + 1))) ∧ Upd (oneBlock c) w1 (W.setCell ⟨w1.heap.size, j, none⟩ (.int .i64 ((S m * S m).1 : Int)))) := fun W hW => by
            obtain ⟨_, _, e3, _, _, q3, f3, s3⟩ := (HO.out.far (Nat.lt_of_lt_of_le hcB hB1) hW).cells (by rw [il_length]; omega)
            rw [il_length] at e3 q3
            cases e3
            refine ⟨⟨_, q3 j h0⟩, f3 _, ?_, (HU.out.trans hW).setCell (p := ⟨w1.heap.size, j, none⟩) (.inr (Nat.le_refl _)) _⟩
            rw [← HSET.out, HSQ.out]
            exact s3 W _ _ rfl
          have HKP : Hid (∀ W v, MadeB B W c t k → MadeB B (W.setCell ⟨w1.heap.size, j, none⟩ v) c t k) := fun W v hW => hW.keep (Upd.setCell (R := oneBlock w1.heap.size) (Upd.refl _ W) (p := ⟨w1.heap.size, j, none⟩) (.inl rfl) _) fun i hi e => by have e' : i = w1.heap.size := e; omega
          clear q2 hev hm hK
          go_wp2_with (go_at_call 55; refine (HMU.out _ HMR.out).mono ?_; rintro e w2 ⟨rfl, hm2, hu2⟩; have M2 := Lib.hid hm2; have L2 := Lib.hid (HLD.out w2 hu2); obtain ⟨u9, k5⟩ := L2.out.1; have k6 := L2.out.2.1; clear hm2 hu2)
          go_roundw
          case rel => exact ⟨j + 1, by omega, by rw [HK.out], L2.out.2.2.1, HKP.out _ _ M2.out, L2.out.2.2.2⟩
          case measure => have := HK.out; simp [intOf]; omega
        · have hr2 : ((K : Int) % 2 == 0) = false := beq_eq_false_iff_ne.2 (by omega)
          have HSK : Hid (S j = esF K (exq r d d)) := by show _ = _; rw [HSJ.out j, HEV.out j, HK.out]
          have HTK := Lib.hid (fun q (hq : q < ln) => esF_take K (exq r d d) q (by rw [HLN.out]; exact hq))
          clear hev hK
          go_wp2
          obtain ⟨wo, rfl⟩ : ∃ wo : World, wo = wr := ⟨_, rfl⟩
          go_loopw [51] (fun i wr => ∃ q : Nat, q ≤ ln ∧ i = .int .i64 (q : Int) ∧ Hid (OwnI wr w1.heap.size (.slice (some ⟨w1.heap.size, 0, none⟩) n n) ((il n (sq S j)).set j ((esF K ((exq r d d).take q)).1 : Int))) ∧ Hid (MadeB B wr c t k) ∧ Hid (Upd (oneBlock c) w1 wr)) (fun i _ => ln - (intOf i).toNat)
          case atStart => exact ⟨0, Nat.zero_le _, rfl, by show OwnI _ _ _ _; rw [List.take_zero]; show OwnI _ _ _ ((il n (sq S j)).set j ((0 : F).1 : Int)); rw [sq_self S n j h0]; exact HO.out, HMR, HU⟩
          case round =>
            clear HO HMR HU
            obtain ⟨q, hq, rfl, HO, HMR, HU⟩ := hrel
            by_cases q0 : q < ln
            · obtain ⟨e, he, hed⟩ := HSM.out q (by rw [HLN.out]; exact q0)
              have HT1 := Lib.hid (HTK.out q q0)
              rw [he] at HT1
              obtain ⟨ge, ce, e5, _, _, q5, _, _⟩ := (O5B.out.far hcB HU.out).cells (by rw [HLN.out]; omega)
              rw [HLN.out] at e5
              cases e5
              have p5 := q5 q (by rw [HLN.out]; exact q0)
              rw [he] at p5
              have HX := xor_F (esF K ((exq r d d).take q)) (alI ((K : Int) * (e : Int)))
              have HEX := Lib.hid (fun W hW => exp_F B c t k ((K : Int) * (e : Int)) W hW)
              have hwm : IntKind.i64.wrap ((K : Int) * (e : Int)) = (K : Int) * (e : Int) := by
                have h2 : K * e ≤ 16 * 104 := Nat.mul_le_mul hK16 (by omega)
                have h3 : (K : Int) * (e : Int) = ((K * e : Nat) : Int) := by rw [Int.natCast_mul]
                rw [IntKind.wrap_i64]; omega
              have hwm2 : wrap64 ((K : Int) * (e : Int)) = (K : Int) * (e : Int) := by
                have h2 : K * e ≤ 16 * 104 := Nat.mul_le_mul hK16 (by omega)
                have h3 : (K : Int) * (e : Int) = ((K * e : Nat) : Int) := by rw [Int.natCast_mul]
                unfold wrap64; omega
              have hT2 : esF K ((exq r d d).take (q + 1)) = esF K ((exq r d d).take q) + alI ((K : Int) * (e : Int)) := HT1.out
              have HLD : Hid (∀ W, Upd noBlock wr W → W.cell? ⟨w1.heap.size, j, none⟩ = some (.int .i64 ((esF K ((exq r d d).take q)).1 : Int)) ∧ W.frozen? ⟨w1.heap.size, j, none⟩ = false ∧ OwnI (W.setCell ⟨w1.heap.size, j, none⟩ (.int .i64 ((esF K ((exq r d d).take q) + alI ((K : Int) * (e : Int))).1 : Int))) w1.heap.size (.slice (some ⟨w1.heap.size, 0, none⟩) n n) ((il n (sq S j)).set j ((esF K ((exq r d d).take (q + 1))).1 : Int)) ∧ MadeB B (W.setCell ⟨w1.heap.size, j, none⟩ (.int .i64 ((esF K ((exq r d d).take q) + alI ((K : Int) * (e : Int))).1 : Int))) c t k ∧ Upd (oneBlock c) w1 (W.setCell ⟨w1.heap.size, j, none⟩ (.int .i64 ((esF K ((exq r d d).take q) + alI ((K : Int) * (e : Int))).1 : Int)))) := fun W hW => by
                obtain ⟨_, _, e3, _, _, q3, f3, s3⟩ := (HO.out.grow hW).cells (by rw [List.length_set, il_length]; omega)
                rw [List.length_set, il_length] at e3 q3
                cases e3
                have p3 := q3 j h0
                rw [List.getD_eq_getElem?_getD, List.getElem?_set_self (by rw [il_length]; exact h0)] at p3
                refine ⟨p3, f3 _, ?_, (HMR.out.grow hW).keep (Upd.setCell (R := oneBlock w1.heap.size) (Upd.refl _ W) (p := ⟨w1.heap.size, j, none⟩) (.inl rfl) _) (fun i hi e => by have e' : i = w1.heap.size := e; omega), (HU.out.trans hW.one).setCell (p := ⟨w1.heap.size, j, none⟩) (.inr (Nat.le_refl _)) _⟩
                rw [hT2]
                have := s3 W j ((esF K ((exq r d d).take q) + alI ((K : Int) * (e : Int))).1 : Int) rfl
                rw [List.set_set] at this
                exact this
              have p3 := (HLD.out wr (Upd.refl _ _)).1
              have p4 : wr.drew.cell? ⟨w1.heap.size, j, none⟩ = _ := (HLD.out wr (Upd.refl _ _)).1
              have p6 : wr.drew.frozen? ⟨w1.heap.size, j, none⟩ = false := (HLD.out wr (Upd.refl _ _)).2.1
              have M3 : Hid (MadeB B wr.drew c t k) := HMR.out.grow (Upd.refl noBlock wr).drew
              clear q5 hT2
              generalize esF K ((exq r d d).take q) = s0 at *
              go_wp2_with fail
              go_region_with (go_at_call 58; refine (HEX.out _ M3.out).mono ?_; rintro e w3 ⟨rfl, hu3⟩; have L3 := Lib.hid (HLD.out w3 (((Upd.refl noBlock wr).drew).trans hu3)); have k5 := L3.out.1; have k6 := L3.out.2.1; clear hu3)
              all_goals
                go_wp2
                go_roundw
                case rel => exact ⟨q + 1, by omega, by go_num, L3.out.2.2.1, L3.out.2.2.2.1, L3.out.2.2.2.2⟩
                case measure => simp [intOf]; omega
            · obtain rfl : q = ln := by omega
              have HFN : Hid ((il n (sq S j)).set j ((esF K ((exq r d d).take q)).1 : Int) = il n (sq S (j + 1))) := by
                show _ = _
                rw [List.take_of_length_le (by rw [HLN.out]; exact Nat.le_refl _), ← HSK.out, HSET.out]
              go_wp2
              go_roundw
              case rel => exact ⟨j + 1, by omega, by rw [HK.out], by rw [← HFN.out]; exact HO, HMR, HU⟩
              case measure => have := HK.out; simp [intOf]; omega
      · obtain rfl : j = n := by omega
        go_wp2
        go_ret
        exact ⟨_, rfl, by rw [il_congr (g := sq S j) fun i hi => (if_pos hi).symm]; exact HO.out.more hB1, HMR.out, U5.out.one.trans HU.out⟩
end Go.Proofs.Ytjfbbnmonfankaa
