/- PathJoins: for every input the law returns true; each argument reads afterwards as it read before. Where what is read is of bulk at most 1048576. The package-level variables read as listed; the card ties that to the program's text. -/
import Derived.Test.YtdbjinakbbiimaaDoorRows
import Derived.Test.YtdbjinakbbiimaaDoorTie
import Derived.Test.YtdbjinakbbiimaaDoorCards
import Derived.Test.YtdbjinakbbiimaaDoorSh
import Derived.LaidMore
import Derived.Lay
import Derived.SevenTiedAt
import Derived.Stop.Joined
import Derived.WalkKit
import Derived.ProofKit
import Derived.OpenShut
import Derived.ShutString
import Derived.ChangeOld
import Derived.Below
import Derived.JoinedCond
import Derived.Test.YtdbjinakbbiimaaDoorUr
import Derived.Test.YtdbjinakbbiimaaDoorUp
import Derived.Test.YtdbjinakbbiimaaDoorYm
namespace Go.Proofs.YtdbjinakbbiimaaDoor.pathJoins
open Go.ChangeShapes Go.WideShapes Go.ChangeAt Go.RowKit
open Go.ChangeMaps (open_string shut_string)
set_option linter.unusedVariables false

theorem own : ownKnob Tryd.prog.godebug = none := by kernel_rfl
theorem laidOut : laidOutB Tryd.prog = true := by kernel_rfl

set_option maxRecDepth 100000 in
theorem contract (H : Type) (enc : TypeId × Value → H) (W : World) (base : Nat) (args : Array Value) (ds gs : List (DataW H)) (before : List MemPlace)
    (hval0 : ∀ (j : Nat) t v, Tryd.f4.params[j]? = some t → args[j]? = some v → Value.okWide Tryd.prog W .any base t v)
    (hW : DataW.Whole enc Tryd.prog Tryd.f4.params.toList Rows.pathJoinsSpec.vars false W args.toList ds gs before) (hk : Rows.uptoSmall H (ds ++ gs) = true) (hL : laidMetH Tryd.prog [("unicode/utf8.acceptRanges", Rows.laid_unicode_utf8_acceptRanges), ("unicode/utf8.first", Rows.laid_unicode_utf8_first)] W) (hsh : W.ShapedOpen Tryd.prog) :
    Calls Tryd.prog 4 args W fun e W' => ∃ v, e = .returned v ∧ Rows.pathJoinsSpec.post enc Tryd.prog Tryd.f4 false true false false W args v W' := by
  have hval : ∀ (j : Nat) t v, Tryd.f4.params[j]? = some t → args[j]? = some v → Value.okWide Tryd.prog W .any base t v := hval0
  have hW' := hW
  obtain ⟨p, q, hA0, hV, rfl, hfz, hnd⟩ := hW
  have hA : DataW.TrodAll enc Tryd.prog W 0 (fun _ => true) true Tryd.f4.params.toList args.toList ds p := hA0
  rw [Tryd.params4] at hA hval
  obtain ⟨v0, vs0, d0, ds0, p0, q0, hargs, rfl, rfl, h0, r0⟩ := trodAll_cons hA
  obtain ⟨rfl, rfl, rfl⟩ := trodAll_nil r0
  obtain rfl : args = #[v0] := by cases args; simp_all
  obtain ⟨rfl, rfl⟩ := trodVars_none hV
  obtain ⟨a0, len0, cap0, rfl⟩ := okWide_slice Tryd.underlying23 (hval 0 23 v0 rfl rfl)
  have k0 := h0
  have lt0 : ∀ x ∈ p0, x.block < W.heap.size := by obtain ⟨m, hm⟩ := k0; exact DataW.trod_lt m _ _ _ hm
  obtain ⟨z0, w0, s0⟩ : ∃ zs, Strs W W.heap.size a0 len0 zs ∧ len0 ≤ 1048576 ∧ (zs.map ByteArray.size).sum ≤ 1048576 := by
    obtain ⟨fuel, hf⟩ := h0
    obtain ⟨Ss, hS, h0 | ⟨L2, hd⟩⟩ := strs_open Tryd.underlying23 Tryd.underlying9 (by kernel_rfl) hf
    · have hl := hS.len
      have hSn : Ss = [] := List.eq_nil_of_length_eq_zero (by omega)
      subst hSn
      exact ⟨[], hS, by omega, by simp⟩
    · refine ⟨Ss, hS, ?_⟩
      have hd' : d0 = .slice (Ss.map fun s => .lit (.string s.data.toList)) L2 := hd
      subst hd'
      have b1 := bulk_slice hk (List.mem_append_left _ (List.mem_cons_self))
      have b2 := bulk_slice_sum hk (List.mem_append_left _ (List.mem_cons_self))
      rw [bulk_strs] at b2
      have hl := hS.len
      simp only [List.length_map] at b1
      exact ⟨by omega, by omega⟩
  clear hA0 hval0 hk
  try simp only [List.append_nil] at hW'
  refine (pathJoins_walk a0 len0 cap0 z0 W w0 s0 (ml_of hsh)).mono fun e W' ⟨he, bel⟩ => ?_
  subst he
  exact ⟨_, rfl, _, _, _, [], _, [], hW', trodAll_mk1 (shut_bool Tryd.underlying4 _), (trodAll_cons_mk (Below.trod laidOut (by kernel_rfl) (of_decide_eq_true (by kernel_rfl)) k0 bel lt0) trodAll_mk0), rfl, bel.frame _, fun h => by cases h⟩

set_option maxRecDepth 100000 in
theorem lifted (os : Os) (started : os.Started) (H : Type) (enc : TypeId × Value → H) (F : Stop.Interp) :
    ReturnsInHanded {} Tryd.checked os 4 .any (fun w args => ((Rows.OpenSpec.upto Rows.pathJoinsSpec).pre enc Tryd.prog Tryd.f4 Rows.pathJoinsUptoRow.domain false w args ∧ laidMetH Tryd.prog [("unicode/utf8.acceptRanges", Rows.laid_unicode_utf8_acceptRanges), ("unicode/utf8.first", Rows.laid_unicode_utf8_first)] w) ∧ sizedMet enc Tryd.prog Tryd.f4 (Rows.OpenSpec.upto Rows.pathJoinsSpec) false w args) (((Rows.OpenSpec.upto Rows.pathJoinsSpec).at F).post enc Tryd.prog Tryd.f4 false true false false) :=
  upto_laid_shaped (C := Tryd.checked) (s := Rows.OpenSpec.upto Rows.pathJoinsSpec) (k := Rows.uptoSmall) rfl own started (by kernel_rfl) Tryd.func4
    (World.laidAll Tryd.prog os [("unicode/utf8.acceptRanges", Rows.laid_unicode_utf8_acceptRanges), ("unicode/utf8.first", Rows.laid_unicode_utf8_first)]) #[.slice none 0 0] 8 (World.laidAll_os _ _ _) (World.shaped_of_ZipB (by kernel_rfl) (by kernel_rfl)) (by kernel_rfl)
    (x := ([.nil], [], [])) (by kernel_rfl) rfl (by kernel_rfl) (by kernel_rfl)
    (by rw [MakeChecks.laidMetH_plain _ _ _ (by kernel_rfl)]; exact laidMet_laidAll _ (by kernel_rfl) (by kernel_rfl))
    (fun W base args ds gs before hval hW hk hL hsh => contract H enc W base args ds gs before hval hW hk hL hsh)

theorem over : Rows.pathJoinsUptoRow.holds Tryd.pinned (Rows.OpenSpec.upto Rows.pathJoinsSpec) :=
  OpenClaim.holds_of_cond 4 Tryd.f4 rfl rfl rfl rfl rfl rfl rfl ⟨rfl, rfl, rfl, rfl, rfl⟩ rfl rfl rfl rfl rfl (by kernel_rfl) Tryd.func4 (by kernel_rfl)
    (of_decide_eq_true (by kernel_rfl)) (by unfold Func.isWrapper; first | (rw [if_pos (by decide +kernel)]; kernel_rfl) | (rw [if_neg (by decide +kernel)]; exact ⟨rfl, rfl⟩))
    (fun os started H enc _ F => lifted os started H enc F)

theorem proved : Rows.PathJoinsUptoCardSaid :=
  Claim7.holds_tied_plain_at .later [] [.data, .pinned] true (true, "747d8b13c55bb9c7a15a8579b44c1618019399846aad90353758b6c8756e4642") false over (fun _ h => by cases h) (by kernel_rfl) (fun _ h => by cases h) pathJoinsUpto_row_tie rfl ⟨rfl, rfl⟩ (by kernel_rfl) rfl
    (fun f fn hf hfn => by
      obtain rfl : f = 4 := Option.some.inj ((show Tryd.prog.funcNamed "chert/chertlaw18.PathJoins" = some 4 by kernel_rfl).symm.trans hf) |>.symm
      obtain rfl : fn = Tryd.f4 := (Option.some.inj (Tryd.func4.symm.trans hfn)).symm
      exact ⟨by kernel_rfl, fun j t ht => by
        rw [Tryd.params4] at ht
        have hm : t ∈ [23] := by simpa using Array.mem_of_getElem? ht
        have hall : ([23].all fun u => !Tryd.prog.wantsStandIn u) = true := by kernel_rfl
        exact (show Tryd.prog.wantsStandIn t = false by simpa using List.all_eq_true.1 hall t hm)⟩)
    (by kernel_rfl)
#print axioms proved
end Go.Proofs.YtdbjinakbbiimaaDoor.pathJoins
