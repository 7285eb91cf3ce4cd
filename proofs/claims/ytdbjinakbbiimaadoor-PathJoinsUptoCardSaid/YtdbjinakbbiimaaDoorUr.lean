/- A law's second form where package-level variables read as listed, with the world's shape kept; how long the strings of a slice are together. -/
import Derived.Test.YtdbjinakbbiimaaDoorUp
import Derived.JoinedCond
import Derived.LaidMore
import Derived.Lay
import Derived.Stop.Joined
namespace Go.Proofs.YtdbjinakbbiimaaDoor

theorem bulk_strs {H : Type} (Ss : List ByteArray) : Rows.uptoBulkAll (Ss.map fun s => DataW.lit (H := H) (.string s.data.toList)) = (Ss.map ByteArray.size).sum + Ss.length := by
  induction Ss with
  | nil => rw [List.map_nil, Rows.uptoBulkAll]; rfl
  | cons s Ss ih =>
    rw [List.map_cons, Rows.uptoBulkAll, ih, Rows.uptoBulk, List.map_cons, List.sum_cons, List.length_cons]
    have : s.data.toList.length = s.size := rfl
    omega
theorem bulk_slice_sum {H : Type} {elems spare : List (DataW H)} {l : List (DataW H)} (hk : Rows.uptoSmall H l = true) (h : DataW.slice elems spare ∈ l) : Rows.uptoBulkAll elems ≤ 1048576 := by
  have h0 : Rows.uptoBulkAll l ≤ 1048576 := of_decide_eq_true hk
  have h1 := bulk_part h
  have e : Rows.uptoBulk (DataW.slice elems spare) = Rows.uptoBulkAll elems + Rows.uptoBulkAll spare + 1 := by rw [Rows.uptoBulk]
  omega
theorem upto_laid_shaped {H : Type} {enc : TypeId × Value → H} {C : Checked} {os : Os} {f : FuncId} {fn : Func} {s : OpenSpec} {k : (H : Type) → List (DataW H) → Bool} (hk : s.cond = some k) {F : Stop.Interp} {conds : List PathCond} {apart fresh handsOn again : Bool} {laid : List (String × DataW Unit)}
    (own : ownKnob C.prog.godebug = none) (started : os.Started) (noInit : C.prog.inits.idxOf? f = none) (hfn : C.prog.funcs[f]? = some fn) (w0 : World) (args0 : Array Value) (fuel : Nat) (hos : w0.os = os)
    (hsh : (w0.forCall (fun _ _ => 0) ⟨#[], args0, []⟩).Shaped C.prog)
    (hok : Input.okWideB C.prog (w0.forCall (fun _ _ => 0) ⟨#[], args0, []⟩) f ⟨#[], args0, []⟩ = true)
    {x : List (DataW H) × List (DataW H) × List MemPlace} (hx : DataW.whole enc C.prog (w0.forCall (fun _ _ => 0) ⟨#[], args0, []⟩).memory fn.params.toList s.vars apart args0.toList fuel = some x)
    (hcs : conds.all (PathCond.test C.prog ⟨fn.params.toList, x.1, s.bare.plain.varTypes C.prog, x.2.1⟩) = true) (hkk : k H (x.1 ++ x.2.1) = true)
    (hsz : s.bare.sizedB enc C.prog fn apart (w0.forCall (fun _ _ => 0) ⟨#[], args0, []⟩).memory args0 fuel = true)
    (hlaid : laidMetH C.prog laid (w0.forCall (fun _ _ => 0) ⟨#[], args0, []⟩).memory)
    (contract : ∀ (W : World) (base : Nat) (args : Array Value) (ds gs : List (DataW H)) (before : List MemPlace),
      (∀ (j : Nat) t v, fn.params[j]? = some t → args[j]? = some v → Value.okWide C.prog W .any base t v) →
      DataW.Whole enc C.prog fn.params.toList s.vars apart W args.toList ds gs before → k H (ds ++ gs) = true → laidMetH C.prog laid W → W.ShapedOpen C.prog →
      Calls C.prog f args W fun e W' => ∃ v, e = .returned v ∧ (s.at F).post enc C.prog fn apart fresh handsOn again W args v W') :
    ReturnsInHanded {} C os f .any (fun w args => (s.pre enc C.prog fn conds apart w args ∧ laidMetH C.prog laid w) ∧ sizedMet enc C.prog fn s apart w args) ((s.at F).post enc C.prog fn apart fresh handsOn again) := by
  refine returnsInHanded_of_calls own started noInit ⟨w0, fun _ _ => 0, ⟨#[], args0, []⟩, hos, hsh, (Input.okWide_of_okWideB (base := 0) hok).1, (Input.okWide_of_okWideB hok).2,
    OpenSpec.preRow_of_cond (laid := laid) fuel hx hcs (fun k' h => by rw [hk] at h; cases h; exact hkk) hsz hlaid, by
      simp only [Assume.holds]
      exact ⟨by simp, by simp, fun h => (by cases h), by simp, by simp⟩⟩ ?_
  rintro w tape i - hshp - hin ⟨⟨hp, hl⟩, -⟩ -
  obtain ⟨-, -, -, g, hg, -, -, -, -, hval⟩ := hin
  cases Option.some.inj (hg.symm.trans hfn)
  obtain ⟨ds, gs, before, hW, -, hb⟩ := (OpenSpec.pre_some hk conds apart _ _).1 hp
  refine Calls.mono (contract (w.forCall tape i) w.heap.size i.args ds gs before hval (DataW.Whole.of_heap (w' := w.forCall tape i) (by rfl) hW) hb (hl.of_heap (by rfl)) hshp) ?_
  rintro e W' ⟨v, rfl, h⟩
  exact ChangeSpec.post_blind h
end Go.Proofs.YtdbjinakbbiimaaDoor
