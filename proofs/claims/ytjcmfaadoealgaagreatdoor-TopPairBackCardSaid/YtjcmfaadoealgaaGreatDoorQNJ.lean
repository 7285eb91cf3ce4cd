/- places: whatever rest there is. -/
import Derived.Test.YtjcmfaadoealgaaGreatDoorQGND
import Derived.Deep.CutRange
namespace Go.Proofs.YtjcmfaadoealgaaGreatDoor
open Go.RowKit Pm F
set_option linter.unusedVariables false

/-- the same, with the value and the word of it apart -/
def AnsV (B : Nat) (a : Option (List Nat)) (u : Value) (ok : Bool) (w' : World) : Prop := match a with
  | none => u = .slice none 0 0 ∧ ok = false
  | some ps => ok = true ∧ OwnI w' B u (nts ps)
theorem Ans.apart {B : Nat} {a : Option (List Nat)} {e : Ending} {w' : World} (h : Ans B a e w') : ∃ u ok, e = .returned (.tuple #[u, .bool ok]) ∧ AnsV B a u ok w' := by
  cases a with
  | none => exact ⟨_, _, h, rfl, rfl⟩
  | some ps => obtain ⟨u, h1, h2⟩ := h; exact ⟨u, _, h1, rfl, h2⟩
theorem AnsV.join {B : Nat} {a : Option (List Nat)} {u : Value} {ok : Bool} {w' : World} (h : AnsV B a u ok w') : Ans B a (.returned (.tuple #[u, .bool ok])) w' := by
  cases a with
  | none => obtain ⟨rfl, rfl⟩ := h; rfl
  | some ps => obtain ⟨rfl, h2⟩ := h; exact ⟨u, rfl, h2⟩
set_option maxRecDepth 100000 in
set_option maxHeartbeats 3200000 in
theorem places_any (B c t k : Nat) (r : Rm) (w : World) (h : MadeB B w c t (k : Int)) (hBw : B ≤ w.heap.size) (hk : k ≤ 256) (ht1 : 1 ≤ t) (ht8 : t ≤ 8) (hr : r.Ok) (hz : ∀ j, 13 * t ≤ j → rb r j = false) :
    Calls Tryz.prog 134 #[.pointer (some ⟨c, 0, none⟩), r.agg] w fun e w' => ∃ a, (∀ ps, Good t (8 * k + 13 * t) r ps ↔ a = some ps) ∧ Ans B a e w' ∧ MadeB B w' c t (k : Int) ∧ Upd (oneBlock c) w w' := by
  have hnot : ∀ (x : Bool) (w : World), (Op.unary .not (.bool x)).run Tryz.prog w = .ok (.bool (!x)) w := fun _ _ => rfl
  have HM := Lib.hid h
  obtain ⟨wa, hwa⟩ : ∃ wa, wa = w.alloc (.cells #[.int .u64 (r.h : Int), .int .u64 (r.l : Int)] 171) := ⟨_, rfl⟩
  have UA : Hid (Upd noBlock w wa) := by rw [hwa]; exact (Upd.refl _ _).alloc _
  have hba : RB wa w.heap.size r := by rw [hwa]; exact heap_alloc_new w _
  have a1 := hba.h
  have a2 := hba.l
  have MA : Hid (MadeB B wa c t (k : Int)) := h.grow UA.out
  have hBa : B ≤ wa.heap.size := Nat.le_trans hBw UA.out.size
  have HSYN := Lib.hid (syndromes_any B c t (k : Int) r wa MA.out hBa hr ht1 ht8 hz)
  by_cases h0 : r.h = 0 ∧ r.l = 0
  · have hr0 : r = Rm.zero := Rm.ext' h0.1 h0.2
    rw [h0.1] at a1
    rw [h0.2] at a2
    have HG := Lib.hid (good_zero t (8 * k + 13 * t) ht1 (by omega))
    subst hr0
    clear h hba HSYN h0 hr hz
    unfold Rm.agg
    go_enter Tryz.func134, Tryz.ntmps134
    have hw0 : wa = w.alloc (.cells #[.int .u64 0, .int .u64 0] 171) := hwa
    go_wp2_with fail
    rw [← hw0]
    go_ret2
    exact ⟨some [], fun ps => (HG.out ps).trans ⟨fun h => by rw [h], fun h => (Option.some.inj h).symm⟩, ⟨_, rfl, OwnI.nil _ _⟩, MA.out, UA.out.one⟩
  · have hrz : r ≠ Rm.zero := fun e => h0 (by rw [e]; exact ⟨rfl, rfl⟩)
    have HRUL : Hid (∀ C L, Gen C L (fun j => evR (13 * t) (j + 1) r) (2 * t) → (∀ C' L', Gen C' L' (fun j => evR (13 * t) (j + 1) r) (2 * t) → L ≤ L') → Rule t r C L ∧ 1 ≤ L) := fun C L h1 h2 => ⟨⟨h1, h2⟩, rule_pos ht1 ht8 hr hz ⟨h1, h2⟩ hrz⟩
    have HNONE : Hid (∀ C L, Rule t r C L → t < L ∨ C L = 0 → ∀ ps, ¬ Good t (8 * k + 13 * t) r ps) := fun C L h1 h2 => good_none (by omega) h1 h2
    have HLOC : Hid (∀ (u : Value) (W : World), MadeB B W c t (k : Int) → B ≤ W.heap.size → OwnI W B u (il (2 * t) fun j => evR (13 * t) (j + 1) r) → Calls Tryz.prog 167 #[.pointer (some ⟨c, 0, none⟩), u] W fun e w' => ∃ (C : Nat → F) (L : Nat) (u3 : Value) (m : Nat) (ok : Bool), e = .returned (.tuple #[u3, .bool ok]) ∧
        ((ok = true ∧ OwnI w' B u3 (il (L + 1) C) ∧ L ≤ t ∧ C L ≠ 0) ∨ (ok = false ∧ (t < L ∨ C L = 0))) ∧ Rule t r C L ∧ 1 ≤ L ∧ MadeB B w' c t (k : Int) ∧ Upd (oneBlock c) W w') := fun u W hW hB hu => (locator_any B c t (k : Int) (fun j => evR (13 * t) (j + 1) r) u W hW hB ht1 ht8 hu).mono fun e w' ⟨C, L, u3, m, h1, h2, h3, h4, h5, h6, h7, h8, h9⟩ => by
      obtain ⟨hR, hL⟩ := HRUL.out C L h3 h4
      refine ⟨C, L, u3, m, _, h1, ?_, hR, hL, h8, h9⟩
      by_cases hlt : L ≤ t
      · by_cases hm : m = L + 1
        · subst hm
          exact .inl ⟨by rw [decide_eq_true hlt, decide_eq_true rfl]; rfl, h2, hlt, h6⟩
        · refine .inr ⟨by rw [decide_eq_true hlt, decide_eq_false hm]; rfl, .inr ?_⟩
          have hmL : m - 1 ≤ L := by
            by_cases h : m - 1 ≤ L
            · exact h
            · exact absurd (h3.2.1 (m - 1) (by omega)) h6
          exact h7 L (by omega)
      · exact .inr ⟨by rw [decide_eq_false hlt]; rfl, .inl (by omega)⟩
    have HROOTS := Lib.hid (fun (C : Nat → F) (L : Nat) (u : Value) (W : World) hW hB hu hR hL hLt hCL => roots_any B c t k r C L u W hW hB hk ht1 ht8 hu hR hL hLt hCL)
    have hcase : ((r.h : Int) == 0) = false ∨ (r.h = 0 ∧ ((r.l : Int) == 0) = false) := by
      by_cases e1 : r.h = 0
      · exact .inr ⟨e1, beq_eq_false_iff_ne.2 fun e => h0 ⟨e1, by omega⟩⟩
      · exact .inl (beq_eq_false_iff_ne.2 fun e => e1 (by omega))
    clear h hba h0 hr hz hrz
    unfold Rm.agg at HSYN ⊢
    go_enter Tryz.func134, Tryz.ntmps134
    go_upto_region 1 with fail
    rw [← hwa]
    clear hwa
    rcases hcase with hc1 | ⟨hc0, hc1⟩
    · go_upto_region 4 with (first
        | (go_at_call 168; refine HSYN.out.mono ?_; rintro e w2 ⟨u2, rfl, ho2, hm2, hu2⟩; have O2 := Lib.hid ho2; have M2 := Lib.hid hm2; have D2 := Lib.hid hu2; clear ho2 hm2 hu2)
        | (go_at_call 167; refine (HLOC.out _ _ M2.out (Nat.le_trans hBa D2.out.size) O2.out).mono ?_; rintro e w3 ⟨C, L, u3, m, ok, rfl, hok, hR, hL, hmade, hu3⟩; have HOK := Lib.hid hok; have HR := Lib.hid hR; have HL := Lib.hid hL; have M3 := Lib.hid hmade; have D3 := Lib.hid (D2.out.trans hu3); clear hok hR hL hmade hu3))
      rcases HOK.out with ⟨rfl, ho3, hLt, hCL⟩ | ⟨rfl, hbad⟩
      · have HRT := Lib.hid ((HROOTS.out C L u3 w3 M3.out (Nat.le_trans hBa D3.out.size) ho3 HR.out HL.out hLt hCL).mono fun e w' ⟨a, h1, h2, h3⟩ => (⟨a, h1, h2.apart, h3⟩ : ∃ a, (∀ ps, Good t (8 * k + 13 * t) r ps ↔ a = some ps) ∧ (∃ u ok, e = Ending.returned (.tuple #[u, .bool ok]) ∧ AnsV B a u ok w') ∧ Upd noBlock w3 w'))
        clear HOK ho3
        go_wp2_with (go_at_call 169; refine HRT.out.mono ?_; rintro e w4 ⟨a, hg4, ⟨u4, ok4, rfl, ha4⟩, hu4⟩; have HA4 := Lib.hid ha4; have G4 := Lib.hid hg4; have M4 := Lib.hid (M3.out.grow hu4); have D4 := Lib.hid ((UA.out.one.trans D3.out).trans hu4.one); clear hg4 hu4 ha4)
        go_ret2
        exact ⟨a, G4.out, HA4.out.join, M4.out, D4.out⟩
      · have HNG := Lib.hid (HNONE.out C L HR.out hbad)
        clear HOK hbad
        go_wp2
        go_ret2
        exact ⟨none, fun ps => ⟨fun h => absurd h (HNG.out ps), fun h => by cases h⟩, rfl, M3.out, UA.out.one.trans D3.out⟩
    · have hc2 : ((r.h : Int) == 0) = true := beq_iff_eq.2 (by omega)
      clear hc0
      go_upto_region 4 with (first
        | (go_at_call 168; refine HSYN.out.mono ?_; rintro e w2 ⟨u2, rfl, ho2, hm2, hu2⟩; have O2 := Lib.hid ho2; have M2 := Lib.hid hm2; have D2 := Lib.hid hu2; clear ho2 hm2 hu2)
        | (go_at_call 167; refine (HLOC.out _ _ M2.out (Nat.le_trans hBa D2.out.size) O2.out).mono ?_; rintro e w3 ⟨C, L, u3, m, ok, rfl, hok, hR, hL, hmade, hu3⟩; have HOK := Lib.hid hok; have HR := Lib.hid hR; have HL := Lib.hid hL; have M3 := Lib.hid hmade; have D3 := Lib.hid (D2.out.trans hu3); clear hok hR hL hmade hu3))
      rcases HOK.out with ⟨rfl, ho3, hLt, hCL⟩ | ⟨rfl, hbad⟩
      · have HRT := Lib.hid ((HROOTS.out C L u3 w3 M3.out (Nat.le_trans hBa D3.out.size) ho3 HR.out HL.out hLt hCL).mono fun e w' ⟨a, h1, h2, h3⟩ => (⟨a, h1, h2.apart, h3⟩ : ∃ a, (∀ ps, Good t (8 * k + 13 * t) r ps ↔ a = some ps) ∧ (∃ u ok, e = Ending.returned (.tuple #[u, .bool ok]) ∧ AnsV B a u ok w') ∧ Upd noBlock w3 w'))
        clear HOK ho3
        go_wp2_with (go_at_call 169; refine HRT.out.mono ?_; rintro e w4 ⟨a, hg4, ⟨u4, ok4, rfl, ha4⟩, hu4⟩; have HA4 := Lib.hid ha4; have G4 := Lib.hid hg4; have M4 := Lib.hid (M3.out.grow hu4); have D4 := Lib.hid ((UA.out.one.trans D3.out).trans hu4.one); clear hg4 hu4 ha4)
        go_ret2
        exact ⟨a, G4.out, HA4.out.join, M4.out, D4.out⟩
      · have HNG := Lib.hid (HNONE.out C L HR.out hbad)
        clear HOK hbad
        go_wp2
        go_ret2
        exact ⟨none, fun ps => ⟨fun h => absurd h (HNG.out ps), fun h => by cases h⟩, rfl, M3.out, UA.out.one.trans D3.out⟩
end Go.Proofs.YtjcmfaadoealgaaGreatDoor
