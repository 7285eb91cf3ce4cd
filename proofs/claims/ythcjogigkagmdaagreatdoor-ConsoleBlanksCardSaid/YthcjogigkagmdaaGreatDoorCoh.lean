/- put, number's contract given. -/
import Derived.Test.YthcjogigkagmdaaGreatDoorCog
import Derived.Lib.LaidTab
import Derived.Lib.ItoaNum
namespace Go.Proofs.YthcjogigkagmdaaGreatDoor
open Go.RowKit
set_option linter.unusedVariables false

/-- the commands' cells -/
def cmdL : List Value := Con.cmds.flatMap fun c => [Value.string ⟨c.1.toArray⟩, Value.string ⟨c.2.toArray⟩]
def cmdC : Array Value := cmdL.toArray
theorem flat_two {α β : Type} (f g : α → β) : ∀ (l : List α) (k : Nat) (x : α), l[k]? = some x → (l.flatMap fun c => [f c, g c])[k * 2]? = some (f x) ∧ (l.flatMap fun c => [f c, g c])[k * 2 + 1]? = some (g x)
  | [], k, x, h => by cases h
  | c :: l, 0, x, h => by cases h; exact ⟨rfl, rfl⟩
  | c :: l, k + 1, x, h => by
    have ih := flat_two f g l k x h
    rw [List.flatMap_cons]
    have e1 : (k + 1) * 2 = k * 2 + 1 + 1 := by omega
    rw [e1]
    exact ih
theorem cmd_at {k : Nat} (hk : k < 23) : cmdC[k * 2]? = some (.string ⟨(Con.wordK k).toArray⟩) ∧ cmdC[k * 2 + 1]? = some (.string ⟨(Con.letters k).toArray⟩) := by
  have hl : Con.cmds.length = 23 := by decide
  have h : Con.cmds[k]? = some (Con.cmds.getD k ([], [])) := by
    rw [List.getD_eq_getElem?_getD, List.getElem?_eq_getElem (by omega)]; rfl
  have := flat_two (fun c => Value.string ⟨c.1.toArray⟩) (fun c => Value.string ⟨c.2.toArray⟩) Con.cmds k _ h
  unfold cmdC
  rw [List.getElem?_toArray, List.getElem?_toArray]
  exact this
/-- the package-level variables that the console reads -/
structure Gl (w : World) : Prop where
  pow : Lib.TabIs Tryz.prog w "internal/strconv.uint64pow10" .u64 Lib.pow10Tab
  syn : ∃ te pe, w.cell? ⟨8, 0, none⟩ = some (.iface te pe)
  et : w.cell? ⟨0, 0, none⟩ = some (.iface 128 (.agg #[.pointer (some ⟨10, 71, none⟩)]))
  cmds : ∃ t z, w.heap[1]? = some (.cells cmdC t z)
  all : w.heap.size ≥ 10
  ml : ∃ m, w.cell? ⟨2, 0, none⟩ = some (.int .i64 m)
def numOut : Option Int → Value
  | some n => .tuple #[.int .i64 n, .bool true]
  | none => .tuple #[.int .i64 0, .bool false]
def fdV (f : Con.Fd) : Value := .agg #[.string f.1, .bool f.2]
/-- number, as its callers want it -/
def NumC : Prop := ∀ (f : Con.Fd) (w : World), Gl w → f.1.size ≤ 140737488351232 → Calls Tryz.prog 85 #[fdV f] w fun e w' => e = .returned (numOut (Con.numF f)) ∧ Upd noBlock w w'
theorem Gl.upd {w w' : World} (h : Gl w) {R : Nat → Prop} (hu : Upd R w w') (hR : ∀ k, k < 10 → ¬ R k) : Gl w' := by
  have hc : ∀ (k j : Nat) (v : Value), k < 10 → w.cell? ⟨k, j, none⟩ = some v → w'.cell? ⟨k, j, none⟩ = some v := fun k j v hk hv =>
    (World.cell?_of_block (hu.block k (World.block_lt_of_cell? w _ hv) (hR k hk))).trans hv
  obtain ⟨te, pe, hs⟩ := h.syn
  obtain ⟨m, hm⟩ := h.ml
  refine ⟨?_, ⟨te, pe, hc _ _ _ (by decide) hs⟩, hc _ _ _ (by decide) h.et, h.cmds.elim fun t hz => hz.elim fun z hz => ⟨t, z, hu.cells hz (hR _ (by decide))⟩, Nat.le_trans h.all hu.size, ⟨m, hc _ _ _ (by decide) hm⟩⟩
  have h9 := h.pow
  unfold Lib.TabIs at h9 ⊢
  rw [← h9]
  have hg : Tryz.prog.globalNamed "internal/strconv.uint64pow10" = some 3 := by kernel_rfl
  have he : w'.heap[3]? = w.heap[3]? := hu.block _ (by have := h.all; omega) (hR _ (by decide))
  unfold World.var?
  rw [hg]
  simp only [Option.bind_some, he]
theorem Gl.grow {w w' : World} (h : Gl w) (hu : Upd noBlock w w') : Gl w' := h.upd hu (fun _ _ h => h)
/-- what put does -/
def PutP (b : Nat) (a : Con.A6) (c : UInt8) (f : Con.Fd) (w : World) (e : Ending) (w' : World) : Prop :=
  ((∃ a', Con.putA a c f = some a' ∧ e = .returned (.bool true) ∧ w'.heap[b]? = some (.cells (actC a') 64 (0, 0))) ∨ (Con.putA a c f = none ∧ e = .returned (.bool false))) ∧ Upd (oneBlock b) w w'
set_option maxRecDepth 20000 in
theorem put_any (HN0 : NumC) (b : Nat) (a : Con.A6) (c : UInt8) (f : Con.Fd) (w : World) (hg : Gl w) (hb : w.heap[b]? = some (.cells (actC a) 64 (0, 0))) (hf : f.1.size ≤ 140737488351232) :
    Calls Tryz.prog 86 #[.pointer (some ⟨b, 0, none⟩), .int .u8 (c.toNat : Int), fdV f] w (PutP b a c f w) := by
  have HT := Lib.hid (fun W => textOf_any b c W)
  have hlt := lt_of_block hb
  have HB := Lib.hid hb
  have HA : Hid (∀ W, Upd noBlock w W → W.heap[b]? = some (.cells (actC a) 64 (0, 0))) := fun W h => (h.cells hb (fun h => h))
  obtain ⟨f1, f2⟩ := f
  unfold fdV
  cases ht : textAt c with
  | some k =>
    rw [ht] at HT
    have hk : k = 1 ∨ k = 2 ∨ k = 3 := by
      unfold textAt at ht
      split at ht
      · cases ht; exact .inl rfl
      split at ht
      · cases ht; exact .inr (.inl rfl)
      split at ht
      · cases ht; exact .inr (.inr rfl)
      · cases ht
    have HF : Hid (∃ a', Con.putA a c (f1, f2) = some a' ∧ actC a' = (actC a).setIfInBounds k (.string f1)) := by
      show ∃ _, _
      unfold textAt at ht
      unfold Con.putA
      by_cases h1 : c = 80
      · rw [if_pos h1] at ht ⊢; cases ht; exact ⟨_, rfl, rfl⟩
      rw [if_neg h1] at ht ⊢
      by_cases h2 : c = 81
      · rw [if_pos h2] at ht ⊢; cases ht; exact ⟨_, rfl, rfl⟩
      rw [if_neg h2] at ht ⊢
      by_cases h3 : c = 68
      · rw [if_pos h3] at ht ⊢; cases ht; exact ⟨_, rfl, rfl⟩
      rw [if_neg h3] at ht; cases ht
    have hbA := HA.out _ ((Upd.refl _ _).alloc (.cells #[.string f1, .bool f2] 148))
    have c0 : ∃ v0, (w.alloc (.cells #[.string f1, .bool f2] 148)).cell? ⟨b, k, none⟩ = some v0 := by
      rw [cell_of hbA k]
      rcases hk with rfl | rfl | rfl <;> exact ⟨_, rfl⟩
    obtain ⟨v0, c0⟩ := c0
    have f0 := free_of hbA k
    have HS : Hid (((w.setCell ⟨b, k, none⟩ (.string f1)).alloc (.cells #[.string f1, .bool f2] 148)).heap[b]? = some (.cells ((actC a).setIfInBounds k (.string f1)) 64 (0, 0))) := block_alloc (block_set hb _) _
    have HU : Hid (Upd (oneBlock b) w ((w.setCell ⟨b, k, none⟩ (.string f1)).alloc (.cells #[.string f1, .bool f2] 148))) := ((Upd.refl (oneBlock b) w).setCell (p := ⟨b, k, none⟩) (.inl rfl) (.string f1)).alloc _
    unfold ptrO at HT
    clear hb ht hk HN0 hg hf hbA
    go_enter Tryz.func86, Tryz.ntmps86
    go_wp2_with (go_at_call 57; (with_reducible refine (HT.out _).mono ?_); rintro e w1 ⟨rfl, rfl⟩)
    go_ret
    obtain ⟨a', h1, h2⟩ := HF.out
    exact ⟨.inl ⟨a', h1, rfl, by rw [h2]; exact HS.out⟩, HU.out⟩
  | none =>
    rw [ht] at HT
    have HG := Lib.hid hg
    have hne : c ≠ 80 ∧ c ≠ 81 ∧ c ≠ 68 := by
      refine ⟨?_, ?_, ?_⟩ <;> (rintro rfl; revert ht; decide)
    have hput : Con.putA a c (f1, f2) = (Con.numF (f1, f2)).map fun n => if c = 79 then { a with off := n } else { a with size := n } := by
      unfold Con.putA
      rw [if_neg hne.1, if_neg hne.2.1, if_neg hne.2.2]
      by_cases h : c = 79
      · rw [if_pos h]; simp only [if_pos h]
      · rw [if_neg h]; simp only [if_neg h]
    have hcell : ∀ n : Int, (actC a).setIfInBounds (numAt c) (.int .i64 n) = actC (if c = 79 then { a with off := n } else { a with size := n }) := by
      intro n
      unfold numAt
      by_cases h : c = 79
      · rw [if_pos h, if_pos h]; rfl
      · rw [if_neg h, if_neg h]; rfl
    have hold : ∃ v0, (actC a)[numAt c]? = some v0 := by
      unfold numAt
      split
      · exact ⟨_, rfl⟩
      · exact ⟨_, rfl⟩
    have HP := Lib.hid (fun W => numberOf_any b c W)
    have HNC := Lib.hid (HN0 (f1, f2) _ (hg.grow ((Upd.refl noBlock w).alloc (.cells #[.string f1, .bool f2] 148))) hf)
    obtain ⟨k, hk⟩ : ∃ k, numAt c = k := ⟨_, rfl⟩
    rw [hk] at hcell hold HP
    obtain ⟨v0, hold⟩ := hold
    have HC0 : Hid (∀ W, Upd noBlock w W → W.cell? ⟨b, k, none⟩ = some v0 ∧ W.frozen? ⟨b, k, none⟩ = false) := fun W h => ⟨(cell_of (HA.out W h) k).trans hold, free_of (HA.out W h) k⟩
    have HPUT := Lib.hid hput
    have HCELL := Lib.hid hcell
    clear hb ht HN0 hg hf hne hput hcell hold hk
    cases hnf : Con.numF (f1, f2) with
    | none =>
      rw [hnf] at HNC HPUT
      unfold ptrO at HT
      unfold numOut fdV at HNC
      clear hnf
      go_enter Tryz.func86, Tryz.ntmps86
      go_wp2_with (first
        | (go_at_call 57; (with_reducible refine (HT.out _).mono ?_); rintro e w1 ⟨rfl, rfl⟩)
        | (go_at_call 85; (with_reducible refine HNC.out.mono ?_); rintro e w2 ⟨rfl, h⟩; have U2 : Hid (Upd noBlock w w2) := ((Upd.refl noBlock w).alloc _).trans h; clear h; obtain ⟨c2, f2⟩ := HC0.out _ U2.out)
        | (go_at_call 58; (with_reducible refine (HP.out _).mono ?_); rintro e w1 ⟨rfl, rfl⟩))
      go_ret
      exact ⟨.inr ⟨HPUT.out, rfl⟩, (Upd.mono (R' := oneBlock b) U2.out (fun _ _ h => h.elim)).setCell (p := ⟨b, k, none⟩) (.inl rfl) _⟩
    | some n =>
      rw [hnf] at HNC HPUT
      unfold ptrO at HT
      unfold numOut fdV at HNC
      clear hnf
      go_enter Tryz.func86, Tryz.ntmps86
      go_wp2_with (first
        | (go_at_call 57; (with_reducible refine (HT.out _).mono ?_); rintro e w1 ⟨rfl, rfl⟩)
        | (go_at_call 85; (with_reducible refine HNC.out.mono ?_); rintro e w2 ⟨rfl, h⟩; have U2 : Hid (Upd noBlock w w2) := ((Upd.refl noBlock w).alloc _).trans h; clear h; obtain ⟨c2, f2⟩ := HC0.out _ U2.out)
        | (go_at_call 58; (with_reducible refine (HP.out _).mono ?_); rintro e w1 ⟨rfl, rfl⟩))
      go_ret
      refine ⟨.inl ⟨_, HPUT.out, rfl, ?_⟩, (Upd.mono (R' := oneBlock b) U2.out (fun _ _ h => h.elim)).setCell (p := ⟨b, k, none⟩) (.inl rfl) _⟩
      rw [← HCELL.out n]
      exact block_set (HA.out _ U2.out) _
end Go.Proofs.YthcjogigkagmdaaGreatDoor
