/- roots: the places of a locator. -/
import Derived.Test.YtjfbbnmonfankaaKGNE
namespace Go.Proofs.Ytjfbbnmonfankaa
open Go.RowKit Pm F
set_option linter.unusedVariables false

def nts (l : List Nat) : List Int := l.map fun p : Nat => (p : Int)
theorem nts_length (l : List Nat) : (nts l).length = l.length := List.length_map _
theorem nts_append (a b : List Nat) : nts (a ++ b) = nts a ++ nts b := List.map_append
theorem nts_getD (l : List Nat) (i : Nat) (h : i < l.length) : (nts l).getD i 0 = ((l[i] : Nat) : Int) := by
  simp [nts, List.getD_eq_getElem?_getD, h]
/-- what a call that looks for places answers -/
def Ans (B : Nat) (a : Option (List Nat)) (e : Ending) (w' : World) : Prop := match a with
  | none => e = .returned (.tuple #[.slice none 0 0, .bool false])
  | some ps => ∃ u, e = .returned (.tuple #[u, .bool true]) ∧ OwnI w' B u (nts ps)
theorem asc_last {rs : List Nat} (h : rs.Pairwise (· < ·)) (h0 : 0 < rs.length) (q : Nat) : (∀ p ∈ rs, p < q) ↔ rs[rs.length - 1] < q := by
  constructor
  · intro h1; exact h1 _ (List.getElem_mem _)
  · intro h1 p hp
    obtain ⟨i, hi, rfl⟩ := List.mem_iff_getElem.1 hp
    by_cases e : i = rs.length - 1
    · subst e; exact h1
    · have := List.pairwise_iff_getElem.1 h i (rs.length - 1) hi (by omega) (by omega)
      omega
theorem last_sum (x : F) (rs : List Nat) (p : Nat) : x + lsum ((rs ++ [p]).map al) (fun X => X) = (x + lsum (rs.map al) (fun X => X)) + alI (p : Int) := by
  rw [List.map_append, lsum_append, alI_nat]
  show x + (_ + (al p + 0)) = _
  rw [add_zero, add_assoc]
set_option maxRecDepth 100000 in
set_option maxHeartbeats 6400000 in
theorem roots_any (B c t k : Nat) (r : Rm) (C : Nat → F) (L : Nat) (v : Value) (w : World) (h : MadeB B w c t (k : Int)) (hBw : B ≤ w.heap.size) (hk : k ≤ 256) (ht1 : 1 ≤ t) (ht8 : t ≤ 8) (hr : OwnI w B v (il (L + 1) C)) (hR : Rule t r C L) (hL : 1 ≤ L) (hLt : L ≤ t) (hCL : C L ≠ 0) :
    Calls Try.prog 41 #[.pointer (some ⟨c, 0, none⟩), v] w fun e w' => ∃ a, (∀ ps, Good t (8 * k + 13 * t) r ps ↔ a = some ps) ∧ Ans B a e w' ∧ Upd noBlock w w' := by
  obtain ⟨i0, hi0, hz0, hz1, hz2⟩ := intPartsI
  obtain ⟨N, hN⟩ : ∃ N, 8 * k + 13 * t = N := ⟨_, rfl⟩
  have HBITS := Lib.hid (fun W (hW : Upd noBlock w W) => bits_any B c t k W (h.grow hW) hk ht8)
  rw [hN] at HBITS ⊢
  have hN8 : N ≤ 2152 := by omega
  have hnot : ∀ (x : Bool) (w : World), (Op.unary .not (.bool x)).run Try.prog w = .ok (.bool (!x)) w := fun _ _ => rfl
  have HLOGS := Lib.hid (logs_any B c t (k : Int) C (L + 1) v w h hBw hr (by omega) (by omega))
  have HROOT := Lib.hid (fun (p : Nat) (u : Value) W (hW : Upd noBlock w W) (hu : OwnI W B u (irow (L + 1) fun i => lgI (C i))) (hp : p ≤ 100000) => isRoot_any B c t (k : Int) C (L + 1) p u W (h.grow hW) hu (by omega) (by omega) hp)
  have HEXP := Lib.hid (fun (p : Nat) W (hW : Upd noBlock w W) => exp_F B c t (k : Int) (p : Int) W (h.grow hW))
  have HLOG := Lib.hid (fun (x : F) W (hW : Upd noBlock w W) (hx : x ≠ 0) => log_F B c t (k : Int) x W (h.grow hW) hx)
  have HFEW : Hid ((rts C L N).length < L - 1 → ∀ ps, ¬ Good t N r ps) := fun hf ps => good_few (by omega) hR hf ps
  have HLAST : Hid (∀ place, place ≤ N → (rts C L place).length = L - 1 → _) := fun place hp hl => good_last (N := N) ht1 (by omega) hp hR hL hLt hCL hl
  have HASC := Lib.hid (rts_asc C L)
  have HSUC : Hid (∀ place, rts C L (place + 1) = if rtq C place (L + 1) = 0 then rts C L place ++ [place] else rts C L place) := fun place => by
    rw [rts_succ]
    by_cases e : cv C (pow (al place)) L = 0
    · rw [if_pos e, if_pos ((rtq_zero C place L).2 e)]
    · rw [if_neg e, if_neg (fun h => e ((rtq_zero C place L).1 h))]
  have HSN : Hid (rts C L 0 = []) := rfl
  obtain ⟨g, cap, rfl, _, hgl, q1, _, _⟩ := hr.cells (by rw [il_length]; omega)
  rw [il_length] at q1
  have p1 := q1 1 (by omega)
  rw [il_getD _ C 1 (by omega)] at p1
  have HC1 : Hid (∀ W, Upd noBlock w W → W.cell? ⟨g, 1, none⟩ = some (.int .i64 ((C 1).1 : Int))) := fun W hW => upd_cell hW p1
  rw [il_length] at HLOGS ⊢
  obtain ⟨n, hn⟩ : ∃ n, L + 1 = n := ⟨_, rfl⟩
  have hn2 : 1 < n := by omega
  have hn9 : n ≤ 9 := by omega
  obtain ⟨m, hm⟩ : ∃ m, L - 1 = m := ⟨_, rfl⟩
  have hw2 : IntKind.i64.wrap ((n : Int) - 2) = (m : Int) := by rw [IntKind.wrap_i64]; omega
  rw [hn] at HLOGS HROOT HSUC ⊢
  rw [hm] at HFEW HLAST
  have hm9 : m ≤ 8 := by omega
  clear h hr hR q1 p1 hn hm hCL hL hLt ht1 ht8 hk
  go_enter Try.func41, Try.ntmps41
  go_wp2_with (go_at_call 59; (with_reducible refine HLOGS.out.mono ?_); rintro e w1 ⟨u6, rfl, ho6, hu6⟩; have O6 := Lib.hid ho6; have U6 := Lib.hid hu6; have k1 := HC1.out w1 hu6; clear ho6 hu6)
  go_loopw [7, 8, 9] (fun s l i wr => ∃ place : Nat, place ≤ N ∧ i = .int .i64 (place : Int) ∧ s = .int .i64 ((C 1 + lsum ((rts C L place).map al) (fun X => X)).1 : Int) ∧ Hid ((rts C L place).length ≤ m) ∧ Hid (OwnI wr w1.heap.size l (nts (rts C L place))) ∧ Hid (Upd noBlock w1 wr)) (fun _ _ i _ => N - (intOf i).toNat)
  case atStart => exact ⟨0, Nat.zero_le _, rfl, by rw [HSN.out]; show _ = Value.int .i64 ((C 1 + 0).1 : Int); rw [add_zero], by rw [HSN.out]; exact Nat.zero_le _, by rw [HSN.out]; exact Lib.hid (OwnI.nil _ _), Upd.refl _ _⟩
  case round =>
    obtain ⟨place, hpl, rfl, rfl, HLEN, HO, HU⟩ := hrel
    have HB1 := Lib.hid (HBITS.out wr (U6.out.trans HU.out))
    have HSU1 := Lib.hid (HSUC.out place)
    obtain ⟨sa, sc, hsl, hints, _, _⟩ := HO.out.sl
    rw [nts_length] at hsl
    subst hsl
    have hlm := HLEN.out
    obtain ⟨ln, hln⟩ : ∃ ln, (rts C L place).length = ln := ⟨_, rfl⟩
    rw [hln] at hlm HO ⊢
    have V6 : Hid (∀ W, Upd noBlock w1 W → Upd noBlock w W) := fun W hW => U6.out.trans hW
    have hp5 : place ≤ 100000 := by omega
    clear hints
    by_cases hlt : ln < m
    · by_cases hpN : place < N
      · cases hb : decide (rtq C place n = 0)
        · have HRT : Hid (∀ W, Upd noBlock w W → OwnI W B u6 (irow n fun i => lgI (C i)) → Calls Try.prog 60 #[.pointer (some ⟨c, 0, none⟩), u6, .int .i64 (place : Int)] W fun e w' => e = .returned (.bool false) ∧ Upd noBlock W w') := fun W h1 h2 => hb ▸ HROOT.out place u6 W h1 h2 hp5
          have HS1 := HSU1.out
          rw [if_neg (of_decide_eq_false hb)] at HS1
          have HS2 := Lib.hid HS1
          clear hb HS1
          go_wp2_with (first
            | (go_at_call 27; (with_reducible refine HB1.out.mono ?_); rintro e w2 ⟨rfl, hu2⟩; have D2 := Lib.hid hu2; have V2 := Lib.hid (HU.out.trans hu2); clear hu2)
            | (go_at_call 60; (with_reducible refine (HRT.out _ (V6.out _ V2.out) (O6.out.grow V2.out)).mono ?_); rintro e w3 ⟨rfl, hu3⟩; have D3 := Lib.hid (D2.out.trans hu3); have V3 := Lib.hid (V2.out.trans hu3); clear hu3))
          go_roundw
          case rel => exact ⟨place + 1, by omega, by go_num, by rw [HS2.out], by rw [HS2.out]; exact HLEN, by rw [HS2.out]; exact Lib.hid (HO.out.grow D3.out), V3⟩
          case measure => simp [intOf]; omega
        · have HRT : Hid (∀ W, Upd noBlock w W → OwnI W B u6 (irow n fun i => lgI (C i)) → Calls Try.prog 60 #[.pointer (some ⟨c, 0, none⟩), u6, .int .i64 (place : Int)] W fun e w' => e = .returned (.bool true) ∧ Upd noBlock W w') := fun W h1 h2 => hb ▸ HROOT.out place u6 W h1 h2 hp5
          have HS1 := HSU1.out
          rw [if_pos (of_decide_eq_true hb)] at HS1
          have HS2 := Lib.hid HS1
          have HSM := Lib.hid (last_sum (C 1) (rts C L place) place)
          have HX := xor_F (C 1 + lsum ((rts C L place).map al) (fun X => X)) (alI (place : Int))
          clear hb HS1 HSU1
          obtain ⟨rs, hrs⟩ : ∃ rs, rts C L place = rs := ⟨_, rfl⟩
          rw [hrs] at HS2 HSM HX HO hln
          rw [hrs]
          generalize C 1 + lsum (rs.map al) (fun X => X) = Y at *
          have HAP : Hid (∀ W, Upd noBlock wr W → (W.alloc (.cells #[.int .i64 (place : Int)] 3)).ownsRow w1.heap.size 3 1 (.slice sa ln sc) ln (vals (nts rs)) ∧ Ints (W.alloc (.cells #[.int .i64 (place : Int)] 3)) (W.heap.size + 1) (some ⟨W.heap.size, 0, none⟩) 1 [(place : Int)] ∧ w1.heap.size ≤ (W.alloc (.cells #[.int .i64 (place : Int)] 3)).heap.size) := fun W hW => by
            have ho := (HO.out.grow hW).grow ((Upd.refl noBlock W).alloc (.cells #[.int .i64 (place : Int)] 3))
            unfold OwnI at ho
            rw [nts_length, hln] at ho
            exact ⟨ho, ints_one W _, by rw [World.size_alloc]; have h2 := HU.out.size; have h3 := hW.size; omega⟩
          have HAG : Hid (∀ W, Upd noBlock wr W → ∀ v9 w9 own, w9.ownsRow w1.heap.size 3 1 v9 (ln + 1) (vals (nts rs) ++ vals [(place : Int)]) → (W.alloc (.cells #[.int .i64 (place : Int)] 3)).grownBy w9 own → OwnI w9 w1.heap.size v9 (nts (rs ++ [place])) ∧ ((∀ i, own = some i → w1.heap.size ≤ i) → Upd noBlock w1 w9)) := fun W hW v9 w9 own ho hg => by
            refine ⟨by rw [nts_append]; exact OwnI.snoc (by rw [nts_length, hln]) ho, fun hl => ?_⟩
            exact upd_of_grown ((HU.out.trans hW).alloc _) hg (fun i hi => .inr (hl i hi))
          have HOB : Hid (∀ i, (Value.slice sa ln sc).ownBlock = some i → w1.heap.size ≤ i) := HO.out.lt
          have HEX := Lib.hid (fun W hW => HEXP.out place W hW)
          go_wp2_with (first
            | (go_at_call 27; (with_reducible refine HB1.out.mono ?_); rintro e w2 ⟨rfl, hu2⟩; have D2 := Lib.hid hu2; have V2 := Lib.hid (HU.out.trans hu2); clear hu2)
            | (go_at_call 60; (with_reducible refine (HRT.out _ (V6.out _ V2.out) (O6.out.grow V2.out)).mono ?_); rintro e w3 ⟨rfl, hu3⟩; have D3 := Lib.hid (D2.out.trans hu3); have V3 := Lib.hid (V2.out.trans hu3); clear hu3)
            | (at_builtin; refine wpList_append_ints _ rfl (.tmp 36) (.tmp 38) _ rfl w1.heap.size 3 i0 _ Try.underlying34 hi0 hz0 hz1 hz2 rfl _ ln (vals (nts rs)) rfl (HAP.out _ D3.out).1 (w3.heap.size + 1) (some ⟨w3.heap.size, 0, none⟩) 1 1 [(place : Int)] rfl (HAP.out _ D3.out).2.1 (by simp only [maxLen]; omega) (by omega) (HAP.out _ D3.out).2.2 ?_; intro v9 w9 hown9 hg9 _; have F9 := Lib.hid (HAG.out _ D3.out _ _ _ hown9 hg9); clear hown9 hg9)
            | (go_at_call 58; refine (HEX.out _ (V6.out _ (F9.out.2 HOB.out))).mono ?_; rintro e w5 ⟨rfl, hu5⟩; have G5 := Lib.hid (F9.out.1.grow hu5); have V5 := Lib.hid ((F9.out.2 HOB.out).trans hu5); clear hu5))
          go_roundw
          case rel => exact ⟨place + 1, by omega, by go_num, by rw [HS2.out]; exact congrArg (fun z : F => Value.int .i64 (z.1 : Int)) HSM.out.symm, by rw [HS2.out]; exact Lib.hid (by rw [List.length_append]; show rs.length + 1 ≤ _; omega), by rw [HS2.out]; exact G5, V5⟩
          case measure => simp [intOf]; omega
      · obtain rfl : place = N := by omega
        have HNO := HFEW.out (by omega)
        have HN2 := Lib.hid HNO
        clear HNO
        go_wp2_with (first
          | (go_at_call 27; (with_reducible refine HB1.out.mono ?_); rintro e w2 ⟨rfl, hu2⟩; have D2 := Lib.hid hu2; have V2 := Lib.hid (HU.out.trans hu2); clear hu2))
        go_ret2
        exact ⟨none, fun ps => ⟨fun h => absurd h (HN2.out ps), fun h => by cases h⟩, rfl, V6.out _ V2.out⟩
    · obtain rfl : ln = m := by omega
      by_cases hpN : place < N
      · obtain ⟨hY0, hG0⟩ := HLAST.out place hpl (by omega)
        have hG := hG0 _ rfl
        clear hG0
        obtain ⟨q, hq⟩ : ∃ q, Gfm.lg (C 1 + lsum ((rts C L place).map al) (fun X => X)).1 = q := ⟨_, rfl⟩
        have HLG := Lib.hid (fun W hW => HLOG.out (C 1 + lsum ((rts C L place).map al) (fun X => X)) W hW hY0)
        rw [hq] at hG HLG
        have HG := Lib.hid hG
        have HAS := Lib.hid (fun h0 => asc_last (HASC.out place) h0 q)
        generalize C 1 + lsum ((rts C L place).map al) (fun X => X) = Y at *
        generalize rts C L place = rs at *
        clear hG hq hY0
        by_cases hqN : q < N
        · by_cases hl0 : ¬ 0 < ln
          · have HRS : Hid (rs = []) := List.eq_nil_of_length_eq_zero (by omega)
            have HAP : Hid (∀ W, Upd noBlock wr W → (W.alloc (.cells #[.int .i64 (q : Int)] 3)).ownsRow w1.heap.size 3 1 (.slice sa ln sc) ln (vals (nts rs)) ∧ Ints (W.alloc (.cells #[.int .i64 (q : Int)] 3)) (W.heap.size + 1) (some ⟨W.heap.size, 0, none⟩) 1 [(q : Int)] ∧ w1.heap.size ≤ (W.alloc (.cells #[.int .i64 (q : Int)] 3)).heap.size) := fun W hW => by
              have ho := (HO.out.grow hW).grow ((Upd.refl noBlock W).alloc (.cells #[.int .i64 (q : Int)] 3))
              unfold OwnI at ho
              rw [nts_length, hln] at ho
              exact ⟨ho, ints_one W _, by rw [World.size_alloc]; have h2 := HU.out.size; have h3 := hW.size; omega⟩
            have HAG : Hid (∀ W, Upd noBlock wr W → ∀ v9 w9 own, w9.ownsRow w1.heap.size 3 1 v9 (ln + 1) (vals (nts rs) ++ vals [(q : Int)]) → (W.alloc (.cells #[.int .i64 (q : Int)] 3)).grownBy w9 own → OwnI w9 w1.heap.size v9 (nts (rs ++ [q])) ∧ ((∀ i, own = some i → w1.heap.size ≤ i) → Upd noBlock w1 w9)) := fun W hW v9 w9 own ho hg => by
              refine ⟨by rw [nts_append]; exact OwnI.snoc (by rw [nts_length, hln]) ho, fun hl => ?_⟩
              exact upd_of_grown ((HU.out.trans hW).alloc _) hg (fun i hi => .inr (hl i hi))
            have HOB : Hid (∀ i, (Value.slice sa ln sc).ownBlock = some i → w1.heap.size ≤ i) := HO.out.lt
            go_wp2_with (first
              | (go_at_call 27; (with_reducible refine HB1.out.mono ?_); rintro e w2 ⟨rfl, hu2⟩; have D2 := Lib.hid hu2; have V2 := Lib.hid (HU.out.trans hu2); clear hu2)
              | (go_at_call 61; (with_reducible refine (HLG.out _ (V6.out _ V2.out)).mono ?_); rintro e w3 ⟨rfl, hu3⟩; have D3 := Lib.hid (D2.out.trans hu3); have V3 := Lib.hid (V2.out.trans hu3); clear hu3)
              | (go_at_call 27; (with_reducible refine (HBITS.out _ (V6.out _ V3.out)).mono ?_); rintro e w4 ⟨rfl, hu4⟩; have D4 := Lib.hid (D3.out.trans hu4); have V4 := Lib.hid (V3.out.trans hu4); clear hu4)
              | (at_builtin; refine wpList_append_ints _ rfl (.tmp 84) (.tmp 86) _ rfl w1.heap.size 3 i0 _ Try.underlying34 hi0 hz0 hz1 hz2 rfl _ ln (vals (nts rs)) rfl (HAP.out _ D4.out).1 (w4.heap.size + 1) (some ⟨w4.heap.size, 0, none⟩) 1 1 [(q : Int)] rfl (HAP.out _ D4.out).2.1 (by simp only [maxLen]; omega) (by omega) (HAP.out _ D4.out).2.2 ?_; intro v9 w9 hown9 hg9 _; have F9 := Lib.hid (HAG.out _ D4.out _ _ _ hown9 hg9); clear hown9 hg9))
            go_ret2
            exact ⟨some (rs ++ [q]), fun ps => ⟨fun h => by rw [((HG.out ps).1 h).2], fun h => (HG.out ps).2 ⟨⟨hqN, fun p hp => by rw [HRS.out] at hp; cases hp⟩, (Option.some.inj h).symm⟩⟩, ⟨_, rfl, F9.out.1.more (Nat.le_trans hBw U6.out.size)⟩, V6.out _ (F9.out.2 HOB.out)⟩
          · have hl0' : 0 < rs.length := by omega
            have HA := Lib.hid (HAS.out hl0')
            obtain ⟨lm, hlm1⟩ : ∃ lm, ln - 1 = lm := ⟨_, rfl⟩
            have HAP : Hid (∀ W, Upd noBlock wr W → (W.alloc (.cells #[.int .i64 (q : Int)] 3)).ownsRow w1.heap.size 3 1 (.slice sa ln sc) ln (vals (nts rs)) ∧ Ints (W.alloc (.cells #[.int .i64 (q : Int)] 3)) (W.heap.size + 1) (some ⟨W.heap.size, 0, none⟩) 1 [(q : Int)] ∧ w1.heap.size ≤ (W.alloc (.cells #[.int .i64 (q : Int)] 3)).heap.size) := fun W hW => by
              have ho := (HO.out.grow hW).grow ((Upd.refl noBlock W).alloc (.cells #[.int .i64 (q : Int)] 3))
              unfold OwnI at ho
              rw [nts_length, hln] at ho
              exact ⟨ho, ints_one W _, by rw [World.size_alloc]; have h2 := HU.out.size; have h3 := hW.size; omega⟩
            have HAG : Hid (∀ W, Upd noBlock wr W → ∀ v9 w9 own, w9.ownsRow w1.heap.size 3 1 v9 (ln + 1) (vals (nts rs) ++ vals [(q : Int)]) → (W.alloc (.cells #[.int .i64 (q : Int)] 3)).grownBy w9 own → OwnI w9 w1.heap.size v9 (nts (rs ++ [q])) ∧ ((∀ i, own = some i → w1.heap.size ≤ i) → Upd noBlock w1 w9)) := fun W hW v9 w9 own ho hg => by
              refine ⟨by rw [nts_append]; exact OwnI.snoc (by rw [nts_length, hln]) ho, fun hl => ?_⟩
              exact upd_of_grown ((HU.out.trans hW).alloc _) hg (fun i hi => .inr (hl i hi))
            have HOB : Hid (∀ i, (Value.slice sa ln sc).ownBlock = some i → w1.heap.size ≤ i) := HO.out.lt
            have hw7 : IntKind.i64.wrap ((ln : Int) - 1) = (lm : Int) := by rw [IntKind.wrap_i64]; omega
            have hlml : lm < ln := by omega
            have hln0 : 0 < ln := by omega
            obtain ⟨g8, cap8, e8, _, _, q8, _, _⟩ := HO.out.cells (by rw [nts_length]; omega)
            rw [nts_length, hln] at e8
            cases e8
            have c8 := q8 lm (by rw [nts_length]; omega)
            obtain ⟨z, hz⟩ : ∃ z, rs[lm]'(by omega) = z := ⟨_, rfl⟩
            rw [nts_getD rs lm (by omega), hz] at c8
            have HC8 : Hid (∀ W, Upd noBlock wr W → W.cell? ⟨g8, lm, none⟩ = some (.int .i64 ((z : Nat) : Int))) := fun W hW => upd_cell hW c8
            have hzz : rs[rs.length - 1]'(by omega) = z := by rw [← hz]; congr 1; omega
            rw [hzz] at HA
            clear q8 hz hzz hlm1
            by_cases hqz : z < q
            · have hqz1 : ¬ q ≤ z := by omega
              go_wp2_with (first
                | (go_at_call 27; (with_reducible refine HB1.out.mono ?_); rintro e w2 ⟨rfl, hu2⟩; have D2 := Lib.hid hu2; have V2 := Lib.hid (HU.out.trans hu2); clear hu2)
                | (go_at_call 61; (with_reducible refine (HLG.out _ (V6.out _ V2.out)).mono ?_); rintro e w3 ⟨rfl, hu3⟩; have D3 := Lib.hid (D2.out.trans hu3); have V3 := Lib.hid (V2.out.trans hu3); clear hu3)
                | (go_at_call 27; (with_reducible refine (HBITS.out _ (V6.out _ V3.out)).mono ?_); rintro e w4 ⟨rfl, hu4⟩; have D4 := Lib.hid (D3.out.trans hu4); have V4 := Lib.hid (V3.out.trans hu4); have k8 := HC8.out w4 D4.out; clear hu4)
                | (at_builtin; refine wpList_append_ints _ rfl (.tmp 84) (.tmp 86) _ rfl w1.heap.size 3 i0 _ Try.underlying34 hi0 hz0 hz1 hz2 rfl _ ln (vals (nts rs)) rfl (HAP.out _ D4.out).1 (w4.heap.size + 1) (some ⟨w4.heap.size, 0, none⟩) 1 1 [(q : Int)] rfl (HAP.out _ D4.out).2.1 (by simp only [maxLen]; omega) (by omega) (HAP.out _ D4.out).2.2 ?_; intro v9 w9 hown9 hg9 _; have F9 := Lib.hid (HAG.out _ D4.out _ _ _ hown9 hg9); clear hown9 hg9))
              go_ret2
              exact ⟨some (rs ++ [q]), fun ps => ⟨fun h => by rw [((HG.out ps).1 h).2], fun h => (HG.out ps).2 ⟨⟨hqN, HA.out.2 hqz⟩, (Option.some.inj h).symm⟩⟩, ⟨_, rfl, F9.out.1.more (Nat.le_trans hBw U6.out.size)⟩, V6.out _ (F9.out.2 HOB.out)⟩
            · have hqz1 : q ≤ z := by omega
              go_wp2_with (first
                | (go_at_call 27; (with_reducible refine HB1.out.mono ?_); rintro e w2 ⟨rfl, hu2⟩; have D2 := Lib.hid hu2; have V2 := Lib.hid (HU.out.trans hu2); clear hu2)
                | (go_at_call 61; (with_reducible refine (HLG.out _ (V6.out _ V2.out)).mono ?_); rintro e w3 ⟨rfl, hu3⟩; have D3 := Lib.hid (D2.out.trans hu3); have V3 := Lib.hid (V2.out.trans hu3); clear hu3)
                | (go_at_call 27; (with_reducible refine (HBITS.out _ (V6.out _ V3.out)).mono ?_); rintro e w4 ⟨rfl, hu4⟩; have D4 := Lib.hid (D3.out.trans hu4); have V4 := Lib.hid (V3.out.trans hu4); have k8 := HC8.out w4 D4.out; clear hu4))
              go_ret2
              exact ⟨none, fun ps => ⟨fun h => absurd (HA.out.1 ((HG.out ps).1 h).1.2) hqz, fun h => by cases h⟩, rfl, V6.out _ V4.out⟩
        · have hqN2 : N ≤ q := by omega
          go_wp2_with (first
            | (go_at_call 27; (with_reducible refine HB1.out.mono ?_); rintro e w2 ⟨rfl, hu2⟩; have D2 := Lib.hid hu2; have V2 := Lib.hid (HU.out.trans hu2); clear hu2)
            | (go_at_call 61; (with_reducible refine (HLG.out _ (V6.out _ V2.out)).mono ?_); rintro e w3 ⟨rfl, hu3⟩; have D3 := Lib.hid (D2.out.trans hu3); have V3 := Lib.hid (V2.out.trans hu3); clear hu3)
            | (go_at_call 27; (with_reducible refine (HBITS.out _ (V6.out _ V3.out)).mono ?_); rintro e w4 ⟨rfl, hu4⟩; have D4 := Lib.hid (D3.out.trans hu4); have V4 := Lib.hid (V3.out.trans hu4); clear hu4))
          go_ret2
          exact ⟨none, fun ps => ⟨fun h => absurd ((HG.out ps).1 h).1.1 hqN, fun h => by cases h⟩, rfl, V6.out _ V4.out⟩
      · obtain ⟨hY0, hG0⟩ := HLAST.out place hpl (by omega)
        have hG := hG0 _ rfl
        clear hG0
        obtain ⟨q, hq⟩ : ∃ q, Gfm.lg (C 1 + lsum ((rts C L place).map al) (fun X => X)).1 = q := ⟨_, rfl⟩
        have HLG := Lib.hid (fun W hW => HLOG.out (C 1 + lsum ((rts C L place).map al) (fun X => X)) W hW hY0)
        rw [hq] at hG HLG
        have HG := Lib.hid hG
        have HAS := Lib.hid (fun h0 => asc_last (HASC.out place) h0 q)
        generalize C 1 + lsum ((rts C L place).map al) (fun X => X) = Y at *
        generalize rts C L place = rs at *
        clear hG hq hY0
        by_cases hqN : q < N
        · by_cases hl0 : ¬ 0 < ln
          · have HRS : Hid (rs = []) := List.eq_nil_of_length_eq_zero (by omega)
            have HAP : Hid (∀ W, Upd noBlock wr W → (W.alloc (.cells #[.int .i64 (q : Int)] 3)).ownsRow w1.heap.size 3 1 (.slice sa ln sc) ln (vals (nts rs)) ∧ Ints (W.alloc (.cells #[.int .i64 (q : Int)] 3)) (W.heap.size + 1) (some ⟨W.heap.size, 0, none⟩) 1 [(q : Int)] ∧ w1.heap.size ≤ (W.alloc (.cells #[.int .i64 (q : Int)] 3)).heap.size) := fun W hW => by
              have ho := (HO.out.grow hW).grow ((Upd.refl noBlock W).alloc (.cells #[.int .i64 (q : Int)] 3))
              unfold OwnI at ho
              rw [nts_length, hln] at ho
              exact ⟨ho, ints_one W _, by rw [World.size_alloc]; have h2 := HU.out.size; have h3 := hW.size; omega⟩
            have HAG : Hid (∀ W, Upd noBlock wr W → ∀ v9 w9 own, w9.ownsRow w1.heap.size 3 1 v9 (ln + 1) (vals (nts rs) ++ vals [(q : Int)]) → (W.alloc (.cells #[.int .i64 (q : Int)] 3)).grownBy w9 own → OwnI w9 w1.heap.size v9 (nts (rs ++ [q])) ∧ ((∀ i, own = some i → w1.heap.size ≤ i) → Upd noBlock w1 w9)) := fun W hW v9 w9 own ho hg => by
              refine ⟨by rw [nts_append]; exact OwnI.snoc (by rw [nts_length, hln]) ho, fun hl => ?_⟩
              exact upd_of_grown ((HU.out.trans hW).alloc _) hg (fun i hi => .inr (hl i hi))
            have HOB : Hid (∀ i, (Value.slice sa ln sc).ownBlock = some i → w1.heap.size ≤ i) := HO.out.lt
            go_wp2_with (first
              | (go_at_call 27; (with_reducible refine HB1.out.mono ?_); rintro e w2 ⟨rfl, hu2⟩; have D2 := Lib.hid hu2; have V2 := Lib.hid (HU.out.trans hu2); clear hu2)
              | (go_at_call 61; (with_reducible refine (HLG.out _ (V6.out _ V2.out)).mono ?_); rintro e w3 ⟨rfl, hu3⟩; have D3 := Lib.hid (D2.out.trans hu3); have V3 := Lib.hid (V2.out.trans hu3); clear hu3)
              | (go_at_call 27; (with_reducible refine (HBITS.out _ (V6.out _ V3.out)).mono ?_); rintro e w4 ⟨rfl, hu4⟩; have D4 := Lib.hid (D3.out.trans hu4); have V4 := Lib.hid (V3.out.trans hu4); clear hu4)
              | (at_builtin; refine wpList_append_ints _ rfl (.tmp 84) (.tmp 86) _ rfl w1.heap.size 3 i0 _ Try.underlying34 hi0 hz0 hz1 hz2 rfl _ ln (vals (nts rs)) rfl (HAP.out _ D4.out).1 (w4.heap.size + 1) (some ⟨w4.heap.size, 0, none⟩) 1 1 [(q : Int)] rfl (HAP.out _ D4.out).2.1 (by simp only [maxLen]; omega) (by omega) (HAP.out _ D4.out).2.2 ?_; intro v9 w9 hown9 hg9 _; have F9 := Lib.hid (HAG.out _ D4.out _ _ _ hown9 hg9); clear hown9 hg9))
            go_ret2
            exact ⟨some (rs ++ [q]), fun ps => ⟨fun h => by rw [((HG.out ps).1 h).2], fun h => (HG.out ps).2 ⟨⟨hqN, fun p hp => by rw [HRS.out] at hp; cases hp⟩, (Option.some.inj h).symm⟩⟩, ⟨_, rfl, F9.out.1.more (Nat.le_trans hBw U6.out.size)⟩, V6.out _ (F9.out.2 HOB.out)⟩
          · have hl0' : 0 < rs.length := by omega
            have HA := Lib.hid (HAS.out hl0')
            obtain ⟨lm, hlm1⟩ : ∃ lm, ln - 1 = lm := ⟨_, rfl⟩
            have HAP : Hid (∀ W, Upd noBlock wr W → (W.alloc (.cells #[.int .i64 (q : Int)] 3)).ownsRow w1.heap.size 3 1 (.slice sa ln sc) ln (vals (nts rs)) ∧ Ints (W.alloc (.cells #[.int .i64 (q : Int)] 3)) (W.heap.size + 1) (some ⟨W.heap.size, 0, none⟩) 1 [(q : Int)] ∧ w1.heap.size ≤ (W.alloc (.cells #[.int .i64 (q : Int)] 3)).heap.size) := fun W hW => by
              have ho := (HO.out.grow hW).grow ((Upd.refl noBlock W).alloc (.cells #[.int .i64 (q : Int)] 3))
              unfold OwnI at ho
              rw [nts_length, hln] at ho
              exact ⟨ho, ints_one W _, by rw [World.size_alloc]; have h2 := HU.out.size; have h3 := hW.size; omega⟩
            have HAG : Hid (∀ W, Upd noBlock wr W → ∀ v9 w9 own, w9.ownsRow w1.heap.size 3 1 v9 (ln + 1) (vals (nts rs) ++ vals [(q : Int)]) → (W.alloc (.cells #[.int .i64 (q : Int)] 3)).grownBy w9 own → OwnI w9 w1.heap.size v9 (nts (rs ++ [q])) ∧ ((∀ i, own = some i → w1.heap.size ≤ i) → Upd noBlock w1 w9)) := fun W hW v9 w9 own ho hg => by
              refine ⟨by rw [nts_append]; exact OwnI.snoc (by rw [nts_length, hln]) ho, fun hl => ?_⟩
              exact upd_of_grown ((HU.out.trans hW).alloc _) hg (fun i hi => .inr (hl i hi))
            have HOB : Hid (∀ i, (Value.slice sa ln sc).ownBlock = some i → w1.heap.size ≤ i) := HO.out.lt
            have hw7 : IntKind.i64.wrap ((ln : Int) - 1) = (lm : Int) := by rw [IntKind.wrap_i64]; omega
            have hlml : lm < ln := by omega
            have hln0 : 0 < ln := by omega
            obtain ⟨g8, cap8, e8, _, _, q8, _, _⟩ := HO.out.cells (by rw [nts_length]; omega)
            rw [nts_length, hln] at e8
            cases e8
            have c8 := q8 lm (by rw [nts_length]; omega)
            obtain ⟨z, hz⟩ : ∃ z, rs[lm]'(by omega) = z := ⟨_, rfl⟩
            rw [nts_getD rs lm (by omega), hz] at c8
            have HC8 : Hid (∀ W, Upd noBlock wr W → W.cell? ⟨g8, lm, none⟩ = some (.int .i64 ((z : Nat) : Int))) := fun W hW => upd_cell hW c8
            have hzz : rs[rs.length - 1]'(by omega) = z := by rw [← hz]; congr 1; omega
            rw [hzz] at HA
            clear q8 hz hzz hlm1
            by_cases hqz : z < q
            · have hqz1 : ¬ q ≤ z := by omega
              go_wp2_with (first
                | (go_at_call 27; (with_reducible refine HB1.out.mono ?_); rintro e w2 ⟨rfl, hu2⟩; have D2 := Lib.hid hu2; have V2 := Lib.hid (HU.out.trans hu2); clear hu2)
                | (go_at_call 61; (with_reducible refine (HLG.out _ (V6.out _ V2.out)).mono ?_); rintro e w3 ⟨rfl, hu3⟩; have D3 := Lib.hid (D2.out.trans hu3); have V3 := Lib.hid (V2.out.trans hu3); clear hu3)
                | (go_at_call 27; (with_reducible refine (HBITS.out _ (V6.out _ V3.out)).mono ?_); rintro e w4 ⟨rfl, hu4⟩; have D4 := Lib.hid (D3.out.trans hu4); have V4 := Lib.hid (V3.out.trans hu4); have k8 := HC8.out w4 D4.out; clear hu4)
                | (at_builtin; refine wpList_append_ints _ rfl (.tmp 84) (.tmp 86) _ rfl w1.heap.size 3 i0 _ Try.underlying34 hi0 hz0 hz1 hz2 rfl _ ln (vals (nts rs)) rfl (HAP.out _ D4.out).1 (w4.heap.size + 1) (some ⟨w4.heap.size, 0, none⟩) 1 1 [(q : Int)] rfl (HAP.out _ D4.out).2.1 (by simp only [maxLen]; omega) (by omega) (HAP.out _ D4.out).2.2 ?_; intro v9 w9 hown9 hg9 _; have F9 := Lib.hid (HAG.out _ D4.out _ _ _ hown9 hg9); clear hown9 hg9))
              go_ret2
              exact ⟨some (rs ++ [q]), fun ps => ⟨fun h => by rw [((HG.out ps).1 h).2], fun h => (HG.out ps).2 ⟨⟨hqN, HA.out.2 hqz⟩, (Option.some.inj h).symm⟩⟩, ⟨_, rfl, F9.out.1.more (Nat.le_trans hBw U6.out.size)⟩, V6.out _ (F9.out.2 HOB.out)⟩
            · have hqz1 : q ≤ z := by omega
              go_wp2_with (first
                | (go_at_call 27; (with_reducible refine HB1.out.mono ?_); rintro e w2 ⟨rfl, hu2⟩; have D2 := Lib.hid hu2; have V2 := Lib.hid (HU.out.trans hu2); clear hu2)
                | (go_at_call 61; (with_reducible refine (HLG.out _ (V6.out _ V2.out)).mono ?_); rintro e w3 ⟨rfl, hu3⟩; have D3 := Lib.hid (D2.out.trans hu3); have V3 := Lib.hid (V2.out.trans hu3); clear hu3)
                | (go_at_call 27; (with_reducible refine (HBITS.out _ (V6.out _ V3.out)).mono ?_); rintro e w4 ⟨rfl, hu4⟩; have D4 := Lib.hid (D3.out.trans hu4); have V4 := Lib.hid (V3.out.trans hu4); have k8 := HC8.out w4 D4.out; clear hu4))
              go_ret2
              exact ⟨none, fun ps => ⟨fun h => absurd (HA.out.1 ((HG.out ps).1 h).1.2) hqz, fun h => by cases h⟩, rfl, V6.out _ V4.out⟩
        · have hqN2 : N ≤ q := by omega
          go_wp2_with (first
            | (go_at_call 27; (with_reducible refine HB1.out.mono ?_); rintro e w2 ⟨rfl, hu2⟩; have D2 := Lib.hid hu2; have V2 := Lib.hid (HU.out.trans hu2); clear hu2)
            | (go_at_call 61; (with_reducible refine (HLG.out _ (V6.out _ V2.out)).mono ?_); rintro e w3 ⟨rfl, hu3⟩; have D3 := Lib.hid (D2.out.trans hu3); have V3 := Lib.hid (V2.out.trans hu3); clear hu3)
            | (go_at_call 27; (with_reducible refine (HBITS.out _ (V6.out _ V3.out)).mono ?_); rintro e w4 ⟨rfl, hu4⟩; have D4 := Lib.hid (D3.out.trans hu4); have V4 := Lib.hid (V3.out.trans hu4); clear hu4))
          go_ret2
          exact ⟨none, fun ps => ⟨fun h => absurd ((HG.out ps).1 h).1.1 hqN, fun h => by cases h⟩, rfl, V6.out _ V4.out⟩
end Go.Proofs.Ytjfbbnmonfankaa
