/- ready: a Code's generator and steps, made once. -/
import Derived.Test.YtnimgkijodfjkaaKIc
namespace Go.Proofs.Ytnimgkijodfjkaa
open Go.RowKit Pm Gfm
attribute [local irreducible] Pm.exps pmul mp GG mpol tl tabA byteStep tailR

theorem cellO {R : Nat → Prop} {a b : World} (hu : Upd R a b) {g j : Nat} {v : Value} (h : a.cell? ⟨g, j, none⟩ = some v) (hR : ¬ R g) : b.cell? ⟨g, j, none⟩ = some v :=
  (World.cell?_of_block (hu.block g (World.block_lt_of_cell? a _ h) hR)).trans h
/-- the steps of the code of t -/
def stepsV (t : Nat) : Array Value := tabA (byteStep (tailR (13 * t) (tl t)))
theorem stepsV_size (t : Nat) : (stepsV t).size = 512 := tabA_size _
attribute [local irreducible] stepsV

theorem store_steps (c : Nat) (W : World) (V : Array Value) (hs : V.size = 512) (h1 : V.all (·.oneCell') = true) (ht : W.there c 12 512) : (storeCells ⟨c, 12, none⟩ V.toList).run Try.prog W = .ok () (W.setCells c 12 V.toList) := by
  have hl : V.toList.length = 512 := by simpa using hs
  exact run_storeCells_cells (P := Try.prog) c 12 V.toList 0 W (fun j hj => (ht j (by omega)).1) (fun j hj => (ht j (by omega)).2) (fun v hv => (Array.all_eq_true_iff_forall_mem.1 h1) v (by simpa using hv))
set_option maxRecDepth 100000 in
set_option maxHeartbeats 3200000 in
theorem readyc_any (c pl t : Nat) (k : Int) (V0 : Array Value) (w : World) (hV0 : V0.size = 512) (ht1 : 1 ≤ t) (ht8 : t ≤ 8) (h : Fld w (cS c t k (.int .u32 0) (.int .i32 1) 0 V0) 0)
    (hp : w.cell? ⟨pl, 0, none⟩ = some (.pointer (some ⟨c, 0, none⟩))) (hpl : ¬ pl = c) :
    Calls Try.prog 39 #[.pointer (some ⟨pl, 0, none⟩)] w fun e w' => e = .returned (.tuple #[]) ∧ Fld w' (cS c t k (.int .u32 0) (.int .i32 1) ((13 * t : Nat) : Int) (stepsV t)) 0 ∧ w'.cell? ⟨c, 5, none⟩ = some (.int .u32 1) ∧ Upd (oneBlock c) w w' := by
  have hcl : c < w.heap.size := h.lt
  have HC := Lib.hid hcl
  have HPL := Lib.hid hpl
  have HP : Hid (∀ W, Upd (oneBlock c) w W → W.cell? ⟨pl, 0, none⟩ = some (.pointer (some ⟨c, 0, none⟩))) := fun W hW => cellO hW hp hpl
  have HGEN := Lib.hid (fun W (hW : Upd noBlock w W) => generator_any (cS c t k (.int .u32 0) (.int .i32 1) 0 V0) 0 t W (h.keep hW) ht1 ht8)
  obtain ⟨gl1, gl2, gl3⟩ := gen_list t ht1 ht8
  have HG1 := Lib.hid gl1
  have HG2 := Lib.hid gl2
  have HST : Hid (∀ (p : Option Addr) (n cc B : Nat) (W : World), Ints W B p n (((13 * t : Nat) : Int) :: tl t) → B ≤ W.heap.size → n ≤ cc → n ≤ 200 → Calls Try.prog 41 #[.slice p n cc] W fun e w' => e = .returned (.agg (stepsV t)) ∧ Upd noBlock W w') := fun p n cc B W a b d e =>
    stepsBy_aux (tailR (13 * t) (tl t)) (stepsV t) p n cc B (13 * t) (tl t) W (Lib.hid rfl) (Lib.hid (by unfold stepsV; rfl)) a b d e (by omega) (by omega) gl3
  have HINF : Hid ((Try.prog.info? 87).map (·.size) = some (stepsV t).size) := by show _ = _; unfold stepsV; exact tabA_info _
  have HONE : Hid ((stepsV t).all (·.oneCell') = true) := by show _ = _; unfold stepsV; exact tabA_one _
  have HSZ := Lib.hid (stepsV_size t)
  have k0 := HP.out w.drew (Upd.refl _ _).drew
  have k1 : w.drew.cell? ⟨c, 0, none⟩ = some (.int .i64 (t : Int)) := h.out 0 (.inl (by show 0 < 5; omega))
  have HSTO : Hid (∀ (dg : Int) (W : World), Fld W (cS c t k (.int .u32 0) (.int .i32 1) dg V0) 0 → (storeCells ⟨c, 12, none⟩ (stepsV t).toList).run Try.prog W = .ok () (W.setCells c 12 (stepsV t).toList)) := fun dg W hW =>
    store_steps c W (stepsV t) HSZ.out HONE.out (cS_there hW hV0)
  have HUP : Hid (∀ W, Upd (oneBlock c) w W → Upd (oneBlock c) w (W.setCells c 12 (stepsV t).toList)) := fun W hW => Upd.setCells (R := oneBlock c) (.inl rfl) _ _ hW
  have HFIN : Hid (∀ (dg : Int) (W : World), Fld W (cS c t k (.int .u32 0) (.int .i32 1) dg V0) 0 → Fld (W.setCells c 12 (stepsV t).toList) (cS c t k (.int .u32 0) (.int .i32 1) dg (stepsV t)) 0) := fun dg W hW => cS_steps hW hV0 _ HSZ.out
  have HOUT : Hid (∀ W : World, W.cell? ⟨c, 5, none⟩ = some (.int .u32 1) → (W.setCells c 12 (stepsV t).toList).cell? ⟨c, 5, none⟩ = some (.int .u32 1)) := fun W h => (World.cell?_setCells_out c (stepsV t).toList 12 W ⟨c, 5, none⟩ (fun _ _ => .inl (by show 5 < 12; omega))).trans h
  generalize stepsV t = V at *
  generalize 13 * t = d at *
  clear h hp hV0 gl1 gl2 gl3 hpl hcl
  go_enter Try.func39, Try.ntmps39
  go_wp2_with fail
  go_region_with (go_at_call 40; refine (HGEN.out _ (Upd.refl noBlock w).drew).mono ?_; rintro e w2 ⟨v, rfl, hgp, hf, hone, hu⟩; have k2 := HP.out w2 ((Upd.refl (oneBlock c) w).drew.trans hu); have k3 : w2.cell? ⟨c, 0, none⟩ = some (.int .i64 (t : Int)) := hf.out 0 (.inl (by show 0 < 5; omega)))
  all_goals
    obtain ⟨p, n, cc, rfl, hi, hm, hnc, hg⟩ := hgp
    have hlen := hi.1
    have hn2 : n ≤ 200 := by have := HG2.out; omega
    rw [HG1.out] at hi
    have hn1 : 0 < n := by have := hi.1; rw [List.length_cons] at this; omega
    obtain ⟨g, off, hpe, hgw, hcl⟩ := hi.cell hn1
    subst hpe
    have a1 : w2.drew.cell? ⟨g, off, none⟩ = some (.int .i64 (d : Int)) := hcl 0 hn1
    have hgb : w.heap.size ≤ g := hg g rfl
    have hgc : ¬ g = c := by have := HC.out; omega
    have hu0 : Upd (oneBlock c) w w2 := (Upd.refl (oneBlock c) w).drew.trans hu
    have a0 := HP.out w2.drew hu0.drew
    have a2 : w2.drew.cell? ⟨c, 11, none⟩ = some (.int .i64 0) := hf.out 11 (.inr (Nat.le_refl _))
    have a3 : w2.drew.frozen? ⟨c, 11, none⟩ = false := hf.fr 11
    have hzn : (0 : Int) < (n : Int) := by omega
    have F3 : Hid (Fld (w2.setCell ⟨c, 11, none⟩ (.int .i64 (d : Int))).drew (cS c t k (.int .u32 0) (.int .i32 1) (d : Int) V0) 0) := (cS_deg hf (d : Int)).keep (Upd.refl _ _).drew
    have O3 : Hid ((w2.setCell ⟨c, 11, none⟩ (.int .i64 (d : Int))).drew.cell? ⟨c, 5, none⟩ = some (.int .u32 1)) := (World.cell?_setCell_other w2 ⟨c, 11, none⟩ ⟨c, 5, none⟩ _ (by simp)).trans hone
    have U2 : Upd (oneBlock c) w2 (w2.setCell ⟨c, 11, none⟩ (.int .i64 (d : Int))).drew := ((Upd.refl (oneBlock c) w2).setCell (p := ⟨c, 11, none⟩) (.inl rfl) _).drew
    have U3 := Lib.hid (hu0.trans U2)
    have I3 := Lib.hid (hi.upd U2.drew (Nat.le_refl _) (fun g' hg' _ e => hgc (by
      have e1 : g = g' := by simpa using hg'
      exact e1.trans e)))
    have hs3 : w2.heap.size ≤ (w2.setCell ⟨c, 11, none⟩ (.int .i64 (d : Int))).drew.drew.heap.size := U2.drew.size
    have HS3 := Lib.hid (HST.out _ n cc _ _ I3.out hs3 hnc hn2)
    clear hi hcl hgw hlen hu hu0 hf hone U2 k2 k3 k0 k1 hs3 hm hg I3 hgb
    go_wp2_with fail
    go_region
    all_goals
      obtain ⟨w3, hw3⟩ : ∃ w3, w3 = (w2.setCell ⟨c, 11, none⟩ (.int .i64 (d : Int))).drew := ⟨_, rfl⟩
      rw [← hw3] at F3 U3 HS3 O3
      rw [← hw3]
      clear hw3 a0 a1 a2 a3
      have b0 := HP.out w3.drew U3.out.drew
      go_wp2_with fail
      go_region_with (go_at_call 41; refine HS3.out.mono ?_; rintro e w4 ⟨rfl, u4⟩; have v4 : Upd noBlock w3 w4 := ((Upd.refl noBlock w3).drew).trans u4; have b1 := HP.out w4 (U3.out.trans v4.one); have F4 := Lib.hid (F3.out.keep v4); have U4 := Lib.hid (U3.out.trans v4.one); have hst := HSTO.out _ w4 F4.out; have F5 := Lib.hid (HFIN.out _ w4 F4.out); have O5 := Lib.hid (HOUT.out _ (upd_cellS v4 O3.out)); have U5 := Lib.hid (HUP.out _ U4.out); clear u4 v4)
      all_goals
        have f5 := F5.out
        have u5 := U5.out
        have o5 := O5.out
        first
          | (go_end0; exact ⟨rfl, f5, o5, u5⟩)
          | (go_wp2_with fail; go_end0; exact ⟨rfl, f5, o5, u5⟩)

end Go.Proofs.Ytnimgkijodfjkaa
