/- Arrays by value among a law's arguments: opened, shut, sized. -/
import Derived.WideKeyPair
import Derived.SizedLaws
namespace Go.Proofs.YtjcmfaadoealgaaGreatDoor
open Go.WideMaps Go.ChangeShapes Go.WideShapes

section
variable {H : Type} {enc : TypeId × Value → H} {P : Program} {k e : TypeId} {q : IntKind} {W : World} {base : Nat} {sp : Nat → Bool} {held : Bool}
theorem arr_agg {n : Nat} (A : ArrKey P k e n) {r : Reach} {b0 : Nat} {v : Value} (h : Value.okWide P W r b0 k v) : ∃ cs : Array Value, v = .agg cs ∧ cs.size = n := by
  simp only [Value.okWide, A.hu] at h
  obtain ⟨cs, h1, h2, _⟩ := h
  rw [A.size] at h2
  exact ⟨cs, h1, h2⟩
theorem open_ai2 (A : ArrKey P k e 2) (he : P.underlying e = some (.int q)) {r : Reach} {b0 : Nat} {v : Value} {d : DataW H} {ps : List MemPlace} (hval : Value.okWide P W r b0 k v) (hd : DataW.Trod enc P W base sp held k v d ps) :
    ∃ a0 a1 : Int, v = .agg #[.int q a0, .int q a1] ∧ d = .agg [.lit (.int q a0), .lit (.int q a1)] ∧ ps = [] ∧ (Lit.int q a0).wf = true ∧ (Lit.int q a1).wf = true := by
  obtain ⟨cs, rfl, hc⟩ := arr_agg A hval
  obtain ⟨l⟩ := cs
  match l, hc with
  | [c0, c1], _ =>
    obtain ⟨fuel, hf⟩ := hd
    cases fuel with
    | zero => simp [DataW.trod] at hf
    | succ n =>
      rw [DataW.trod_step] at hf
      unfold DataW.trodStep at hf
      simp only [A.hu, Value.cells] at hf
      rw [if_pos (by rw [A.size]; rfl)] at hf
      simp only [Option.map_eq_some_iff] at hf
      obtain ⟨xs, hx, e1⟩ := hf
      rw [show List.range 2 = [0, 1] from rfl, List.mapM_cons, List.mapM_cons, List.mapM_nil] at hx
      simp only [bind, Option.bind_eq_some_iff, pure, Option.some.injEq, A.one] at hx
      obtain ⟨y0, h0, _, ⟨y1, h1, _, rfl, rfl⟩, rfl⟩ := hx
      obtain ⟨a0, ea0, rfl, wa0⟩ := DataW.trod_int he h0
      obtain ⟨a1, ea1, rfl, wa1⟩ := DataW.trod_int he h1
      simp at ea0 ea1
      subst ea0
      subst ea1
      simp only [Prod.mk.injEq] at e1
      exact ⟨a0, a1, rfl, by rw [← e1.1]; rfl, by rw [← e1.2]; rfl, wa0, wa1⟩
theorem shut_ai2 (A : ArrKey P k e 2) (he : P.underlying e = some (.int q)) {a0 a1 : Int} (wa0 : (Lit.int q a0).wf = true) (wa1 : (Lit.int q a1).wf = true) :
    DataW.Trod enc P W base sp held k (.agg #[.int q a0, .int q a1]) (.agg [.lit (.int q a0), .lit (.int q a1)]) [] :=
  ⟨2, by
    show DataW.trod enc P W base sp held (1 + 1) k [.int q a0, .int q a1] = _
    rw [DataW.trod_step]
    unfold DataW.trodStep
    simp only [A.hu]
    rw [if_pos (by rw [A.size]; rfl), show List.range 2 = [0, 1] from rfl, List.mapM_cons, List.mapM_cons, List.mapM_nil]
    simp [A.one, DataW.trod, he, wa0, wa1]⟩
end
end Go.Proofs.YtjcmfaadoealgaaGreatDoor
