/- What is laid: from the rows' condition to the globals that the walks read; a world that meets it. -/
import Derived.Test.YthcjogigkagmdaaGreatDoorCoy
import Derived.Test.YthcjogigkagmdaaGreatDoorRows
import Derived.Test.YthcjogigkagmdaaGreatDoorSh
import Derived.LaidHandle
import Derived.LaidMore
import Derived.Lay
import Derived.Lib.LaidTab
import Derived.Stop.Joined
import Derived.Shelf.Vars
namespace Go.Proofs.YthcjogigkagmdaaGreatDoor
open Go.RowKit
set_option linter.unusedVariables false

def plainL : List (String × DataW Unit) := [("math/bits.deBruijn32tab", Rows.laid_math_bits_deBruijn32tab), ("math/bits.deBruijn64tab", Rows.laid_math_bits_deBruijn64tab), ("internal/strconv.uint64pow10", Rows.laid_internal_strconv_uint64pow10), ("unicode/utf8.acceptRanges", Rows.laid_unicode_utf8_acceptRanges), ("strconv.ErrRange", Rows.laid_strconv_ErrRange), ("strconv.ErrSyntax", Rows.laid_strconv_ErrSyntax), ("chert/console.commands", Rows.laid_chert_console_commands), ("unicode/utf8.first", Rows.laid_unicode_utf8_first)]
def conL : List (String × DataW Unit) := [("math/bits.deBruijn32tab", Rows.laid_math_bits_deBruijn32tab), ("math/bits.deBruijn64tab", Rows.laid_math_bits_deBruijn64tab), ("internal/strconv.uint64pow10", Rows.laid_internal_strconv_uint64pow10), ("unicode/utf8.acceptRanges", Rows.laid_unicode_utf8_acceptRanges), ("errors.errorType", Rows.laid_errors_errorType), ("strconv.ErrRange", Rows.laid_strconv_ErrRange), ("strconv.ErrSyntax", Rows.laid_strconv_ErrSyntax), ("chert/console.commands", Rows.laid_chert_console_commands), ("unicode/utf8.first", Rows.laid_unicode_utf8_first)]
theorem conF1 : (conL.filter fun x => x.2.handleName?.isNone) = plainL := by rfl
theorem conF2 : (conL.filter fun x => x.2.handleName?.isSome) = [("errors.errorType", Rows.laid_errors_errorType)] := by rfl
theorem conHalves {W : World} (h : laidMetH Tryz.prog conL W) : laidMet Tryz.prog plainL W ∧ handlesMet Tryz.prog [("errors.errorType", Rows.laid_errors_errorType)] W := by
  unfold laidMetH at h
  rw [conF1, conF2] at h
  exact h
theorem laidVars_mem {P : Program} {W : World} {n : String} {d : DataW Unit} : ∀ {l : List (String × DataW Unit)} {ps : List MemPlace}, DataW.LaidVars P W l ps → (n, d) ∈ l → ∃ g t cs fuel p, P.globalNamed n = some g ∧ (P.globals[g]?).map (·.type) = some t ∧ W.var? P n = some cs ∧ DataW.trod (fun _ => ()) P W 0 (fun _ => true) false fuel t cs.toList = some (d, p)
  | [], _, _, hm => by cases hm
  | (n', d') :: r, ps, h, hm => by
    obtain ⟨g, t, cs, fuel, p, q, h1, h2, h3, h4, h5, _⟩ := h
    rcases List.mem_cons.1 hm with e | e
    · cases e; exact ⟨g, t, cs, fuel, p, h1, h2, h3, h4⟩
    · exact laidVars_mem h5 e
theorem laidMet_mem {P : Program} {W : World} {n : String} {d : DataW Unit} {l : List (String × DataW Unit)} (h : laidMet P l W) (hm : (n, d) ∈ l) : ∃ g t cs fuel p, P.globalNamed n = some g ∧ (P.globals[g]?).map (·.type) = some t ∧ W.var? P n = some cs ∧ DataW.trod (fun _ => ()) P W 0 (fun _ => true) false fuel t cs.toList = some (d, p) := by
  obtain ⟨ps, h, _⟩ := h
  exact laidVars_mem h hm
theorem var_block {P : Program} {W : World} {n : String} {g : Nat} {cs : Array Value} (hg : P.globalNamed n = some g) (h : W.var? P n = some cs) : ∃ t z, W.heap[g]? = some (.cells cs t z) := by
  unfold World.var? at h
  rw [hg] at h
  simp only [Option.bind_some] at h
  split at h
  · rename_i c t z e
    cases h
    exact ⟨t, z, e⟩
  · cases h
theorem len_two {α : Type} : ∀ {l : List α}, l.length = 2 → ∃ a b, l = [a, b]
  | [a, b], _ => ⟨a, b, rfl⟩
/-- a command's two cells -/
theorem cmd_trod {fuel : Nat} {W : World} {cs : List Value} {l1 l2 : List UInt8} {p : List MemPlace}
    (h : DataW.trod (fun _ => ()) Tryz.prog W 0 (fun _ => true) false fuel 116 cs = some (.agg [.lit (.string l1), .lit (.string l2)], p)) : cs = [.string ⟨l1.toArray⟩, .string ⟨l2.toArray⟩] := by
  cases fuel with
  | zero => simp [DataW.trod] at h
  | succ fuel =>
    have hc : Tryz.prog.cellsOf 116 = 2 := by kernel_rfl
    have hs : Tryz.prog.cellsOf 9 = 1 := by kernel_rfl
    simp only [DataW.trod, Tryz.underlying116, hc] at h
    split at h
    · next hl =>
      obtain ⟨xs, hm, hx⟩ := Option.map_eq_some_iff.1 h
      obtain ⟨a, b, rfl⟩ := len_two hl
      simp only [List.mapM_cons, List.mapM_nil, Option.bind_eq_bind, Option.bind_eq_some_iff, Option.pure_def, Option.some.injEq, hs, List.drop_zero, List.drop_succ_cons, List.take_succ_cons, List.take_zero] at hm
      obtain ⟨x1, h1, y, ⟨x2, h2, z, rfl, rfl⟩, rfl⟩ := hm
      obtain ⟨s1, e1, f1, _⟩ := DataW.trod_string Tryz.underlying9 h1
      obtain ⟨s2, e2, f2, _⟩ := DataW.trod_string Tryz.underlying9 h2
      have hx1 := congrArg Prod.fst hx
      subst f1; subst f2
      simp only [List.map_cons, List.map_nil, DataW.agg.injEq, List.cons.injEq, DataW.lit.injEq, Lit.string.injEq, and_true] at hx1
      obtain ⟨g1, g2⟩ := hx1
      cases e1; cases e2
      rw [← g1, ← g2]
    · cases h
theorem laidCmds : (Rows.laid_chert_console_commands : DataW Unit) = .agg (Con.cmds.map fun c => .agg [.lit (.string c.1), .lit (.string c.2)]) := by rfl
theorem cmds_trod {fuel : Nat} {W : World} {cs : List Value} {p : List MemPlace}
    (h : DataW.trod (fun _ => ()) Tryz.prog W 0 (fun _ => true) false fuel 117 cs = some (.agg (Con.cmds.map fun c => .agg [.lit (.string c.1), .lit (.string c.2)]), p)) : cs = cmdL := by
  cases fuel with
  | zero => simp [DataW.trod] at h
  | succ fuel =>
    have hc : Tryz.prog.cellsOf 116 = 2 := by kernel_rfl
    have hs : Tryz.prog.cellsOf 117 = 46 := by kernel_rfl
    simp only [DataW.trod, Tryz.underlying117, hc, hs] at h
    split at h
    · next hl =>
      obtain ⟨xs, hm, hx⟩ := Option.map_eq_some_iff.1 h
      have hx1 := congrArg Prod.fst hx
      simp only [DataW.agg.injEq] at hx1
      have hcl : Con.cmds.length = 23 := by decide
      have hil : cmdL.length = 46 := by decide
      have key : ∀ i, i < 23 → (cs.drop (i * 2)).take 2 = [(cmdL[i * 2]?).getD undef, (cmdL[i * 2 + 1]?).getD undef] := fun i hi => by
        obtain ⟨b, hb, hf⟩ := Lib.mapM_at hm i i (by simp [hi])
        obtain ⟨c, hcc⟩ : ∃ c, Con.cmds[i]? = some c := ⟨_, List.getElem?_eq_getElem (by omega)⟩
        have h2 : (xs.map (·.1))[i]? = some b.1 := by rw [List.getElem?_map, hb]; rfl
        rw [hx1, List.getElem?_map, hcc] at h2
        simp only [Option.map_some, Option.some.injEq] at h2
        obtain ⟨b1, b2⟩ := b
        simp only at h2
        subst h2
        obtain ⟨q1, q2⟩ := flat_two (fun c => Value.string ⟨c.1.toArray⟩) (fun c => Value.string ⟨c.2.toArray⟩) Con.cmds i c hcc
        unfold cmdL
        rw [cmd_trod hf, q1, q2]; rfl
      apply List.ext_getElem?
      intro j
      by_cases hj : j < 46
      · have hk := key (j / 2) (by omega)
        have e0 : (cs.drop (j / 2 * 2))[j % 2]? = cs[j]? := by rw [List.getElem?_drop, show j / 2 * 2 + j % 2 = j from by omega]
        have e1 : ((cs.drop (j / 2 * 2)).take 2)[j % 2]? = cs[j]? := by rw [List.getElem?_take, if_pos (by omega), e0]
        rw [hk] at e1
        rw [← e1]
        obtain ⟨v, hv⟩ : ∃ v, cmdL[j]? = some v := ⟨_, List.getElem?_eq_getElem (by omega)⟩
        rcases (by omega : j % 2 = 0 ∨ j % 2 = 1) with hm2 | hm2
        · rw [hm2, show j / 2 * 2 = j by omega, hv]; rfl
        · rw [hm2, show j / 2 * 2 + 1 = j by omega, hv]; rfl
      · rw [List.getElem?_eq_none (by omega), List.getElem?_eq_none (by omega)]
    · cases h
theorem ml_of {W : World} (h : W.ShapedOpen Tryz.prog) : ∃ m, W.cell? ⟨2, 0, none⟩ = some (.int .i64 m) :=
  Go.Proofs.cell_of_shapedOpen_int (zero := #[.int .i64 0]) (t := 3) h (of_decide_eq_true (by kernel_rfl)) (by kernel_rfl) rfl (by kernel_rfl) (by kernel_rfl) Tryz.underlying3
theorem et_of {W : World} (h : handlesMet Tryz.prog [("errors.errorType", Rows.laid_errors_errorType)] W) : W.cell? ⟨0, 0, none⟩ = some (.iface 128 (.agg #[.pointer (some ⟨10, 71, none⟩)])) := by
  obtain ⟨name, u, ty, e1, e2, e3, e4, e5⟩ := h _ (List.mem_singleton.2 rfl)
  have en : name = [101, 114, 114, 111, 114] := (Option.some.inj e1).symm
  subst en
  have hrt : (Tryz.prog.cutTypes.find? (·.1 == "internal/reflectlite.rtype")).map (·.2) = some 128 := by kernel_rfl
  obtain rfl := Option.some.inj (hrt.symm.trans e2)
  have hall : ∀ t, t < Tryz.prog.types.size → Tryz.prog.rowNamed t [101, 114, 114, 111, 114] = true → t = 71 := fun t h1 h2 => by
    have hb : ((List.range Tryz.prog.types.size).all fun t => !(Tryz.prog.rowNamed t [101, 114, 114, 111, 114]) || t == 71) = true := by kernel_rfl
    have := List.all_eq_true.1 hb t (List.mem_range.2 h1)
    rw [h2] at this
    simpa using this
  obtain rfl := hall ty e3 e4
  have hh : typeHandle Tryz.prog 71 = .pointer (some ⟨10, 71, none⟩) := by kernel_rfl
  rw [hh] at e5
  have hg : Tryz.prog.globalNamed "errors.errorType" = some 0 := by kernel_rfl
  simpa using World.var?_cell hg e5 0
theorem of_laidC {W : World} (hL : laidMetH Tryz.prog conL W) (hsh : W.ShapedOpen Tryz.prog) : Gl W := by
  obtain ⟨hl, hh⟩ := conHalves hL
  refine ⟨?_, ?_, et_of hh, ?_, ?_, ml_of hsh⟩
  · obtain ⟨g, t, cs, fuel, p, h1, h2, h3, h4⟩ := laidMet_mem hl (n := "internal/strconv.uint64pow10") (d := Lib.tabData .u64 Lib.pow10Tab) (by simp [plainL]; rfl)
    have hg : Tryz.prog.globalNamed "internal/strconv.uint64pow10" = some 3 := by kernel_rfl
    obtain rfl := Option.some.inj (hg.symm.trans h1)
    have hty : (Tryz.prog.globals[3]?).map (·.type) = some 185 := by kernel_rfl
    obtain rfl := Option.some.inj (hty.symm.trans h2)
    unfold Lib.TabIs
    rw [h3, ← Lib.cells_of_tab Tryz.underlying185 Tryz.underlying92 (by kernel_rfl) (by kernel_rfl) h4]
  · obtain ⟨g, t, cs, fuel, p, h1, h2, h3, h4⟩ := laidMet_mem hl (n := "strconv.ErrSyntax") (d := Rows.laid_strconv_ErrSyntax) (by simp [plainL])
    have hg : Tryz.prog.globalNamed "strconv.ErrSyntax" = some 8 := by kernel_rfl
    obtain rfl := Option.some.inj (hg.symm.trans h1)
    have hty : (Tryz.prog.globals[8]?).map (·.type) = some 71 := by kernel_rfl
    obtain rfl := Option.some.inj (hty.symm.trans h2)
    obtain ⟨f1, u, v, he, hn, h5⟩ := iface_of_trod Tryz.underlying71 h4
    refine ⟨u, v, ?_⟩
    have hc := World.var?_cell hg h3 0
    rw [hc, ← Array.getElem?_toList, he]; rfl
  · obtain ⟨g, t, cs, fuel, p, h1, h2, h3, h4⟩ := laidMet_mem hl (n := "chert/console.commands") (d := Rows.laid_chert_console_commands) (by simp [plainL])
    have hg : Tryz.prog.globalNamed "chert/console.commands" = some 1 := by kernel_rfl
    obtain rfl := Option.some.inj (hg.symm.trans h1)
    have hty : (Tryz.prog.globals[1]?).map (·.type) = some 117 := by kernel_rfl
    obtain rfl := Option.some.inj (hty.symm.trans h2)
    rw [laidCmds] at h4
    have hc := cmds_trod h4
    obtain ⟨t, z, hb⟩ := var_block hg h3
    refine ⟨t, z, ?_⟩
    rw [hb]
    unfold cmdC
    rw [← hc]
  · obtain ⟨g, t, cs, fuel, p, h1, h2, h3, h4⟩ := laidMet_mem hl (n := "strconv.ErrRange") (d := Rows.laid_strconv_ErrRange) (by simp [plainL])
    have hg : Tryz.prog.globalNamed "strconv.ErrRange" = some 9 := by kernel_rfl
    obtain ⟨t, z, hb⟩ := var_block hg h3
    have := lt_of_block hb
    omega
/-- a world that meets the condition -/
noncomputable def con0 (os : Os) : World :=
  let w0 := World.holding Tryz.prog os ⟨#[], #[], []⟩
  { w0 with heap := w0.heap.modify 0 fun
      | .cells _ t fr => .cells #[.iface 128 (.agg #[.pointer (some ⟨10, 71, none⟩)])] t fr
      | o => o }
noncomputable def conW (os : Os) : World := (con0 os).layVars Tryz.prog plainL
theorem conW_os (os : Os) : (conW os).os = os := (World.layVars_os _ _ _).trans rfl
theorem conW_met (os : Os) (args : Array Value) : laidMetH Tryz.prog conL ((conW os).forCall (fun _ _ => 0) ⟨#[], args, []⟩).memory := by
  have e1 : (plainL.filter fun x => (plainL.map (·.1)).contains x.1) = plainL := List.filter_eq_self.2 fun x hx => List.contains_iff_mem.2 (List.mem_map.2 ⟨x, hx, rfl⟩)
  have e2 : (plainL.filter fun x => !(plainL.map (·.1)).contains x.1) = [] := List.filter_eq_nil_iff.2 fun x hx => by rw [List.contains_iff_mem.2 (List.mem_map.2 ⟨x, hx, rfl⟩)]; simp
  have h : laidMet Tryz.prog plainL (conW os) := laidMet_layVars (w0 := con0 os) (plainL.map (·.1)) [] (by rw [e1]; rfl) (by rw [e1]; kernel_rfl) (by rw [e1]; kernel_rfl) (by rw [e2]; exact LaidIn.none)
  refine laidMetH_of_parts ?_ ?_
  · rw [conF1]
    exact h.of_heap (by simp [World.memory, World.forCall, Input.heap])
  · rw [conF2]; kernel_rfl
theorem conW_shaped (os : Os) (args : Array Value) : ((conW os).forCall (fun _ _ => 0) ⟨#[], args, []⟩).Shaped Tryz.prog := World.shaped_of_ZipB (by kernel_rfl) (by kernel_rfl)
end Go.Proofs.YthcjogigkagmdaaGreatDoor
