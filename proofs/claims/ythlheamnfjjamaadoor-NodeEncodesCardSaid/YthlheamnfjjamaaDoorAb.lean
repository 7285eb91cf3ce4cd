/- An array of two bools by value among a law's arguments: opened, shut. -/
import Derived.Test.YthlheamnfjjamaaDoorAr
namespace Go.Proofs.YthlheamnfjjamaaDoor
open Go.WideMaps Go.ChangeShapes Go.WideShapes

section
variable {H : Type} {enc : TypeId × Value → H} {P : Program} {k e : TypeId} {W : World} {base : Nat} {sp : Nat → Bool} {held : Bool}
theorem open_ab2 (A : ArrKey P k e 2) (he : P.underlying e = some .bool) {r : Reach} {b0 : Nat} {v : Value} {d : DataW H} {ps : List MemPlace} (hval : Value.okWide P W r b0 k v) (hd : DataW.Trod enc P W base sp held k v d ps) :
    ∃ a0 a1 : Bool, v = .agg #[.bool a0, .bool a1] ∧ d = .agg [.lit (.bool a0), .lit (.bool a1)] ∧ ps = [] := by
  obtain ⟨cs, rfl, hc⟩ := arr_agg A hval
  obtain ⟨l⟩ := cs
  match l, hc with
  | [c0, c1], _ =>
    obtain ⟨fuel, hf⟩ := hd
    cases fuel with
    | zero => simp [DataW.trod] at hf
    | succ n =>
      rw [DataW.trod_step] at hf
      unfold DataW.trodStep at hf
      simp only [A.hu, Value.cells] at hf
      rw [if_pos (by rw [A.size]; rfl)] at hf
      simp only [Option.map_eq_some_iff] at hf
      obtain ⟨xs, hx, e1⟩ := hf
      rw [show List.range 2 = [0, 1] from rfl, List.mapM_cons, List.mapM_cons, List.mapM_nil] at hx
      simp only [bind, Option.bind_eq_some_iff, pure, Option.some.injEq, A.one] at hx
      obtain ⟨y0, h0, _, ⟨y1, h1, _, rfl, rfl⟩, rfl⟩ := hx
      obtain ⟨a0, ea0, rfl⟩ := DataW.trod_bool he h0
      obtain ⟨a1, ea1, rfl⟩ := DataW.trod_bool he h1
      simp at ea0 ea1
      subst ea0
      subst ea1
      simp only [Prod.mk.injEq] at e1
      exact ⟨a0, a1, rfl, by rw [← e1.1]; rfl, by rw [← e1.2]; rfl⟩
theorem shut_ab2 (A : ArrKey P k e 2) (he : P.underlying e = some .bool) (a0 a1 : Bool) :
    DataW.Trod enc P W base sp held k (.agg #[.bool a0, .bool a1]) (.agg [.lit (.bool a0), .lit (.bool a1)]) [] :=
  ⟨2, by
    show DataW.trod enc P W base sp held (1 + 1) k [.bool a0, .bool a1] = _
    rw [DataW.trod_step]
    unfold DataW.trodStep
    simp only [A.hu]
    rw [if_pos (by rw [A.size]; rfl), show List.range 2 = [0, 1] from rfl, List.mapM_cons, List.mapM_cons, List.mapM_nil]
    simp [A.one, DataW.trod, he]⟩
end
end Go.Proofs.YthlheamnfjjamaaDoor
