import Derived.Test.YtoledgpcgjdjjaaGreatDoorQIb
import Derived.Test.YtoledgpcgjdjjaaGreatDoorQGHu
import Derived.Deep.MidRow
import Derived.Laws.IdiomCopy
/- A Code in memory. -/
namespace Go.Proofs.YtoledgpcgjdjjaaGreatDoor
open Go.RowKit Pm Gfm

theorem setCells_block {b : Nat} {t : TypeId} {z : Nat × Nat} : ∀ (vs : List Value) (o : Nat) (w : World) (C : Array Value), w.heap[b]? = some (.cells C t z) → ∃ C', (w.setCells b o vs).heap[b]? = some (.cells C' t z) ∧ C'.size = C.size ∧ ∀ j, C'[j]? = if o ≤ j ∧ j < o + vs.length ∧ j < C.size then vs[j - o]? else C[j]?
  | [], o, w, C, h => ⟨C, h, rfl, fun j => by rw [if_neg (by simp only [List.length_nil]; omega)]⟩
  | v :: r, o, w, C, h => by
    obtain ⟨C', h1, h2, h3⟩ := setCells_block r (o + 1) _ _ (block_set (i := o) h v)
    rw [Array.size_setIfInBounds] at h2
    refine ⟨C', h1, h2, fun j => ?_⟩
    rw [h3 j, Array.size_setIfInBounds, List.length_cons]
    rcases Nat.lt_trichotomy j o with e | e | e
    · rw [if_neg (by omega), if_neg (by omega), Array.getElem?_setIfInBounds, if_neg (by omega)]
    · subst e
      rw [if_neg (by omega), Array.getElem?_setIfInBounds, if_pos rfl]
      by_cases hj : j < C.size
      · rw [if_pos hj, if_pos ⟨Nat.le_refl _, by omega, hj⟩, Nat.sub_self]; rfl
      · rw [if_neg hj, if_neg (by omega)]; exact (Array.getElem?_eq_none (by omega)).symm
    · have hne : ¬ o = j := by omega
      simp only [Array.getElem?_setIfInBounds, hne, if_false]
      clear hne
      obtain ⟨q, rfl⟩ : ∃ q, j = o + 1 + q := ⟨j - (o + 1), by omega⟩
      rw [show o + 1 + q - o = q + 1 by omega, show o + 1 + q - (o + 1) = q by omega, List.getElem?_cons_succ]
      by_cases c : o + 1 + q < o + 1 + r.length ∧ o + 1 + q < C.size
      · rw [if_pos ⟨by omega, c⟩, if_pos ⟨by omega, by omega, c.2⟩]
      · rw [if_neg (fun h => c h.2), if_neg (fun h => c ⟨by omega, h.2.2⟩)]
theorem Upd.setCells {R : Nat → Prop} {a : World} {b : Nat} (hb : R b ∨ a.heap.size ≤ b) : ∀ (vs : List Value) (o : Nat) {w : World}, Upd R a w → Upd R a (w.setCells b o vs)
  | [], _, _, h => h
  | v :: r, o, _, h => Upd.setCells hb r (o + 1) (h.setCell (p := ⟨b, o, none⟩) hb v)

/-! ### the cells besides a field -/
theorem Fld.out {w : World} {b : Spt} {n : Int} (h : Fld w b n) (j : Nat) (hj : j < b.off ∨ b.off + 6 ≤ j) : w.cell? ⟨b.blk, j, none⟩ = b.R j := by
  rcases h with h | ⟨_, _, h, _⟩
  · obtain ⟨C, hb, _, _, _, _, _, _, r⟩ := h; rw [cell_of hb]; exact r j hj
  · obtain ⟨C, hb, _, _, _, _, _, _, r⟩ := h; rw [cell_of hb]; exact r j hj
theorem Fld.fr {w : World} {b : Spt} {n : Int} (h : Fld w b n) (j : Nat) : w.frozen? ⟨b.blk, j, none⟩ = false := by
  obtain ⟨c, hc⟩ := h.block; exact free_of hc j
theorem FB.turn {w w' : World} {b b' : Spt} {d s m p l n : Value} (h : FB w b d s m p l n) (e1 : b'.blk = b.blk) (e2 : b'.off = b.off) (e3 : b'.T = b.T)
    (hC : ∀ C : Array Value, w.heap[b.blk]? = some (.cells C b.T (0, 0)) → (∀ j, j < b.off ∨ b.off + 6 ≤ j → C[j]? = b.R j) → ∃ C' : Array Value, w'.heap[b.blk]? = some (.cells C' b.T (0, 0)) ∧ (∀ j, b.off ≤ j → j < b.off + 6 → C'[j]? = C[j]?) ∧ (∀ j, j < b.off ∨ b.off + 6 ≤ j → C'[j]? = b'.R j)) : FB w' b' d s m p l n := by
  obtain ⟨C, hb, h0, h1, h2, h3, h4, h5, r⟩ := h
  obtain ⟨C', hb', k, k'⟩ := hC C hb r
  refine ⟨C', ?_, ?_, ?_, ?_, ?_, ?_, ?_, ?_⟩
  · rw [e1, e3]; exact hb'
  · rw [e2, k _ (by omega) (by omega)]; exact h0
  · rw [e2, k _ (by omega) (by omega)]; exact h1
  · rw [e2, k _ (by omega) (by omega)]; exact h2
  · rw [e2, k _ (by omega) (by omega)]; exact h3
  · rw [e2, k _ (by omega) (by omega)]; exact h4
  · rw [e2, k _ (by omega) (by omega)]; exact h5
  · rw [e2]; exact k'
theorem Fld.turn {w w' : World} {b b' : Spt} {n : Int} (h : Fld w b n) (e1 : b'.blk = b.blk) (e2 : b'.off = b.off) (e3 : b'.T = b.T) (hu : Upd (oneBlock b.blk) w w')
    (hC : ∀ C : Array Value, w.heap[b.blk]? = some (.cells C b.T (0, 0)) → (∀ j, j < b.off ∨ b.off + 6 ≤ j → C[j]? = b.R j) → ∃ C' : Array Value, w'.heap[b.blk]? = some (.cells C' b.T (0, 0)) ∧ (∀ j, b.off ≤ j → j < b.off + 6 → C'[j]? = C[j]?) ∧ (∀ j, j < b.off ∨ b.off + 6 ≤ j → C'[j]? = b'.R j)) : Fld w' b' n := by
  rcases h with h | ⟨pb, lb, h, hp, hl⟩
  · exact .inl (h.turn e1 e2 e3 hC)
  · obtain ⟨c, hc⟩ := h.block
    exact .inr ⟨pb, lb, h.turn e1 e2 e3 hC, hp.of_block (hu.block _ hp.lt (rowIs_ne hp hc)), hl.of_block (hu.block _ hl.lt (rowIs_ne hl hc))⟩
theorem Fld.setOut {w : World} {b b' : Spt} {n : Int} (h : Fld w b n) (e1 : b'.blk = b.blk) (e2 : b'.off = b.off) (e3 : b'.T = b.T) (i : Nat) (v : Value) (hi : i < b.off ∨ b.off + 6 ≤ i)
    (hs : (b.R i).isSome = true) (hR : ∀ j, j < b.off ∨ b.off + 6 ≤ j → b'.R j = if j = i then some v else b.R j) : Fld (w.setCell ⟨b.blk, i, none⟩ v) b' n := by
  refine h.turn e1 e2 e3 ((Upd.refl (oneBlock b.blk) w).setCell (p := ⟨b.blk, i, none⟩) (.inl rfl) v) fun C hb hr => ⟨_, block_set hb v, fun j h1 h2 => ?_, fun j hj => ?_⟩
  · rw [Array.getElem?_setIfInBounds, if_neg (by omega)]
  · rw [hR j hj, Array.getElem?_setIfInBounds]
    by_cases e : i = j
    · subst e
      have hlt : i < C.size := by
        rw [← hr i hj, Option.isSome_iff_exists] at hs
        obtain ⟨a, ha⟩ := hs
        exact (Array.getElem?_eq_some_iff.1 ha).1
      rw [if_pos rfl, if_pos hlt, if_pos rfl]
    · rw [if_neg e, if_neg (fun h => e h.symm)]; exact hr j hj

/-! ### a Code -/
def cR (t k : Int) (d m : Value) (dg : Int) (V : Array Value) (j : Nat) : Option Value :=
  if j = 0 then some (.int .i64 t) else if j = 1 then some (.int .i64 k) else if j = 2 then some d else if j = 3 then some m else if j = 4 then some (.int .u32 0) else if j = 11 then some (.int .i64 dg) else if 12 ≤ j then V[j - 12]? else none
def cS (c : Nat) (t k : Int) (d m : Value) (dg : Int) (V : Array Value) : Spt := ⟨c, 5, 177, cR t k d m dg V, by decide⟩
theorem cS_deg {w : World} {c : Nat} {t k : Int} {d m : Value} {dg : Int} {V : Array Value} {n : Int} (h : Fld w (cS c t k d m dg V) n) (dg' : Int) : Fld (w.setCell ⟨c, 11, none⟩ (.int .i64 dg')) (cS c t k d m dg' V) n := by
  refine Fld.setOut (b' := cS c t k d m dg' V) h rfl rfl rfl 11 _ (.inr (Nat.le_refl _)) rfl fun j _ => ?_
  show cR t k d m dg' V j = if j = 11 then _ else cR t k d m dg V j
  unfold cR
  by_cases e : j = 11
  · subst e; rfl
  · simp only [e, if_false]
theorem cS_done {w : World} {c : Nat} {t k : Int} {d m : Value} {dg : Int} {V : Array Value} {n : Int} (h : Fld w (cS c t k d m dg V) n) (d' : Value) : Fld (w.setCell ⟨c, 2, none⟩ d') (cS c t k d' m dg V) n := by
  refine Fld.setOut (b' := cS c t k d' m dg V) h rfl rfl rfl 2 _ (.inl (by show 2 < 5; omega)) rfl fun j _ => ?_
  show cR t k d' m dg V j = if j = 2 then _ else cR t k d m dg V j
  unfold cR
  by_cases e : j = 2
  · subst e; rfl
  · simp only [e, if_false]
theorem cS_mut {w : World} {c : Nat} {t k : Int} {d m : Value} {dg : Int} {V : Array Value} {n : Int} (h : Fld w (cS c t k d m dg V) n) (m' : Value) : Fld (w.setCell ⟨c, 3, none⟩ m') (cS c t k d m' dg V) n := by
  refine Fld.setOut (b' := cS c t k d m' dg V) h rfl rfl rfl 3 _ (.inl (by show 3 < 5; omega)) rfl fun j _ => ?_
  show cR t k d m' dg V j = if j = 3 then _ else cR t k d m dg V j
  unfold cR
  by_cases e : j = 3
  · subst e; rfl
  · simp only [e, if_false]
theorem cS_there {w : World} {c : Nat} {t k : Int} {d m : Value} {dg : Int} {V : Array Value} {n : Int} (h : Fld w (cS c t k d m dg V) n) (hV : V.size = 512) : w.there c 12 512 := fun j hj => by
  refine ⟨?_, h.fr _⟩
  have h1 := h.out (12 + j) (.inr (by show 5 + 6 ≤ 12 + j; omega))
  have h2 : (cS c t k d m dg V).R (12 + j) = V[j]? := by
    show cR t k d m dg V (12 + j) = _
    unfold cR
    rw [if_neg (by omega), if_neg (by omega), if_neg (by omega), if_neg (by omega), if_neg (by omega), if_neg (by omega), if_pos (by omega), show 12 + j - 12 = j by omega]
  rw [h2, Array.getElem?_eq_getElem (by omega)] at h1
  show (w.cell? ⟨(cS c t k d m dg V).blk, 12 + j, none⟩).isSome = true
  rw [h1]; rfl
theorem cS_steps {w : World} {c : Nat} {t k : Int} {d m : Value} {dg : Int} {V : Array Value} {n : Int} (h : Fld w (cS c t k d m dg V) n) (hV : V.size = 512) (W : Array Value) (hW : W.size = 512) : Fld (w.setCells c 12 W.toList) (cS c t k d m dg W) n := by
  refine h.turn (b' := cS c t k d m dg W) rfl rfl rfl (Upd.setCells (R := oneBlock c) (.inl rfl) _ _ (Upd.refl (oneBlock c) w)) fun C hb hr => ?_
  obtain ⟨C', h1, h2, h3⟩ := setCells_block W.toList 12 w C hb
  have hlen : W.toList.length = 512 := by simpa using hW
  have hbig : 524 ≤ C.size := by
    have h4 := hr 523 (.inr (by show 5 + 6 ≤ 523; omega))
    have h5 : (cS c t k d m dg V).R 523 = V[511]? := rfl
    have h6 : V[511]? = some V[511] := Array.getElem?_eq_getElem (by omega)
    rw [h5, h6] at h4
    have := (Array.getElem?_eq_some_iff.1 h4).1
    omega
  refine ⟨C', h1, fun j a b => ?_, fun j hj => ?_⟩
  · have b' : j < 5 + 6 := b
    rw [h3 j, if_neg (by omega)]
  · show C'[j]? = cR t k d m dg W j
    have h6 : C[j]? = cR t k d m dg V j := hr j hj
    have hj' : j < 5 ∨ 5 + 6 ≤ j := hj
    rw [h3 j, hlen]
    by_cases c1 : 12 ≤ j ∧ j < 12 + 512
    · rw [if_pos ⟨c1.1, c1.2, by omega⟩, Array.getElem?_toList]
      unfold cR
      rw [if_neg (by omega), if_neg (by omega), if_neg (by omega), if_neg (by omega), if_neg (by omega), if_neg (by omega), if_pos (by omega)]
    · rw [if_neg (fun h => c1 ⟨h.1, h.2.1⟩), h6]
      unfold cR
      by_cases c2 : 12 ≤ j
      · rw [if_neg (by omega), if_neg (by omega), if_neg (by omega), if_neg (by omega), if_neg (by omega), if_neg (by omega), if_pos (by omega), if_neg (by omega), if_neg (by omega), if_neg (by omega), if_neg (by omega), if_neg (by omega), if_neg (by omega), if_pos (by omega), Array.getElem?_eq_none (by omega), Array.getElem?_eq_none (by omega)]
      · simp only [if_neg c2]

/-! ### the generator's list -/
theorem lst_len (n P : Nat) : (lst n P).length ≤ n := by
  induction n with
  | zero => simp [lst]
  | succ n ih =>
    unfold lst
    split
    · rw [List.length_cons]; omega
    · omega
def tl (t : Nat) : List Int := (exps (GG t)).tail
theorem gen_list (t : Nat) (h1 : 1 ≤ t) (h8 : t ≤ 8) : exps (GG t) = ((13 * t : Nat) : Int) :: tl t ∧ (exps (GG t)).length ≤ 105 ∧ ∀ k, k < (tl t).length → ∃ e : Nat, (tl t).getD k 0 = (e : Int) ∧ e < 13 * t := by
  obtain ⟨a1, a2⟩ := GG_deg t h8
  have hx := exps_top (GG t) (13 * t) a1 a2 (by omega)
  have ht : tl t = exps (GG t ^^^ 2 ^ (13 * t)) := by unfold tl; rw [hx]; rfl
  refine ⟨by rw [ht]; exact hx, ?_, fun k hk => ?_⟩
  · have e1 : exps (GG t) = lst (13 * t + 1) (GG t) := lst_up _ _ _ a2 (by unfold top; omega)
    rw [e1]
    exact Nat.le_trans (lst_len _ _) (by omega)
  · have hq : GG t ^^^ 2 ^ (13 * t) < 2 ^ (13 * t - 1 + 1) := by
      rw [show 13 * t - 1 + 1 = 13 * t by omega]
      have hb : (GG t).testBit (13 * t) = true := by
        rw [Nat.testBit_eq_decide_div_mod_eq]
        have l1 : 1 ≤ GG t / 2 ^ (13 * t) := (Nat.le_div_iff_mul_le (Nat.two_pow_pos _)).2 (by omega)
        have l2 : GG t / 2 ^ (13 * t) < 2 := (Nat.div_lt_iff_lt_mul (Nat.two_pow_pos _)).2 (by rw [Nat.pow_succ] at a2; omega)
        have e : GG t / 2 ^ (13 * t) = 1 := by omega
        rw [e]; rfl
      have e : GG t ^^^ 2 ^ (13 * t) = GG t % 2 ^ (13 * t) := by
        apply Nat.eq_of_testBit_eq
        intro i
        rw [Nat.testBit_xor, Nat.testBit_mod_two_pow, Nat.testBit_two_pow]
        rcases Nat.lt_trichotomy i (13 * t) with hi | hi | hi
        · have : decide (13 * t = i) = false := by simp; omega
          simp [hi, this]
        · subst hi; simp [hb]
        · have h3 : (GG t).testBit i = false := Nat.testBit_lt_two_pow (Nat.lt_of_lt_of_le a2 (Nat.pow_le_pow_right (by omega) hi))
          have : decide (13 * t = i) = false := by simp; omega
          rw [h3, this]; simp
      rw [e]
      exact Nat.mod_lt _ (Nat.two_pow_pos _)
    have hm := exps_mem ((tl t).getD k 0) (GG t ^^^ 2 ^ (13 * t)) (13 * t - 1) (by
      rw [← ht, List.getD_eq_getElem?_getD, List.getElem?_eq_getElem hk]; exact List.getElem_mem hk) hq (by omega)
    exact ⟨((tl t).getD k 0).toNat, by omega, by omega⟩
end Go.Proofs.YtoledgpcgjdjjaaGreatDoor

/- ready: a Code's generator and steps, made once. -/
namespace Go.Proofs.YtoledgpcgjdjjaaGreatDoor
open Go.RowKit Pm Gfm
attribute [local irreducible] Pm.exps pmul mp GG mpol tl tabA byteStep tailR

theorem cellO {R : Nat → Prop} {a b : World} (hu : Upd R a b) {g j : Nat} {v : Value} (h : a.cell? ⟨g, j, none⟩ = some v) (hR : ¬ R g) : b.cell? ⟨g, j, none⟩ = some v :=
  (World.cell?_of_block (hu.block g (World.block_lt_of_cell? a _ h) hR)).trans h
def stepsV (t : Nat) : Array Value := tabA (byteStep (tailR (13 * t) (tl t)))
theorem stepsV_size (t : Nat) : (stepsV t).size = 512 := tabA_size _
attribute [local irreducible] stepsV

theorem store_steps (c : Nat) (W : World) (V : Array Value) (hs : V.size = 512) (h1 : V.all (·.oneCell') = true) (ht : W.there c 12 512) : (storeCells ⟨c, 12, none⟩ V.toList).run Tryz.prog W = .ok () (W.setCells c 12 V.toList) := by
  have hl : V.toList.length = 512 := by simpa using hs
  exact run_storeCells_cells (P := Tryz.prog) c 12 V.toList 0 W (fun j hj => (ht j (by omega)).1) (fun j hj => (ht j (by omega)).2) (fun v hv => (Array.all_eq_true_iff_forall_mem.1 h1) v (by simpa using hv))
set_option maxRecDepth 100000 in
set_option maxHeartbeats 3200000 in
theorem readyc_any (c pl t : Nat) (k : Int) (V0 : Array Value) (w : World) (hV0 : V0.size = 512) (ht1 : 1 ≤ t) (ht8 : t ≤ 8) (h : Fld w (cS c t k (.int .u32 0) (.int .i32 1) 0 V0) 0)
    (hp : w.cell? ⟨pl, 0, none⟩ = some (.pointer (some ⟨c, 0, none⟩))) (hpl : ¬ pl = c) :
    Calls Tryz.prog 110 #[.pointer (some ⟨pl, 0, none⟩)] w fun e w' => e = .returned (.tuple #[]) ∧ Fld w' (cS c t k (.int .u32 0) (.int .i32 1) ((13 * t : Nat) : Int) (stepsV t)) 0 ∧ w'.cell? ⟨c, 5, none⟩ = some (.int .u32 1) ∧ Upd (oneBlock c) w w' := by
  have hcl : c < w.heap.size := h.lt
  have HC := Lib.hid hcl
  have HPL := Lib.hid hpl
  have HP : Hid (∀ W, Upd (oneBlock c) w W → W.cell? ⟨pl, 0, none⟩ = some (.pointer (some ⟨c, 0, none⟩))) := fun W hW => cellO hW hp hpl
  have HGEN := Lib.hid (fun W (hW : Upd noBlock w W) => generator_any (cS c t k (.int .u32 0) (.int .i32 1) 0 V0) 0 t W (h.keep hW) ht1 ht8)
  obtain ⟨gl1, gl2, gl3⟩ := gen_list t ht1 ht8
  have HG1 := Lib.hid gl1
  have HG2 := Lib.hid gl2
  have HST : Hid (∀ (p : Option Addr) (n cc B : Nat) (W : World), Ints W B p n (((13 * t : Nat) : Int) :: tl t) → B ≤ W.heap.size → n ≤ cc → n ≤ 200 → Calls Tryz.prog 112 #[.slice p n cc] W fun e w' => e = .returned (.agg (stepsV t)) ∧ Upd noBlock W w') := fun p n cc B W a b d e =>
    stepsBy_aux (tailR (13 * t) (tl t)) (stepsV t) p n cc B (13 * t) (tl t) W (Lib.hid rfl) (Lib.hid (by unfold stepsV; rfl)) a b d e (by omega) (by omega) gl3
  have HINF : Hid ((Tryz.prog.info? 175).map (·.size) = some (stepsV t).size) := by show _ = _; unfold stepsV; exact tabA_info _
  have HONE : Hid ((stepsV t).all (·.oneCell') = true) := by show _ = _; unfold stepsV; exact tabA_one _
  have HSZ := Lib.hid (stepsV_size t)
  have k0 := HP.out w.drew (Upd.refl _ _).drew
  have k1 : w.drew.cell? ⟨c, 0, none⟩ = some (.int .i64 (t : Int)) := h.out 0 (.inl (by show 0 < 5; omega))
  have HSTO : Hid (∀ (dg : Int) (W : World), Fld W (cS c t k (.int .u32 0) (.int .i32 1) dg V0) 0 → (storeCells ⟨c, 12, none⟩ (stepsV t).toList).run Tryz.prog W = .ok () (W.setCells c 12 (stepsV t).toList)) := fun dg W hW =>
    store_steps c W (stepsV t) HSZ.out HONE.out (cS_there hW hV0)
  have HUP : Hid (∀ W, Upd (oneBlock c) w W → Upd (oneBlock c) w (W.setCells c 12 (stepsV t).toList)) := fun W hW => Upd.setCells (R := oneBlock c) (.inl rfl) _ _ hW
  have HFIN : Hid (∀ (dg : Int) (W : World), Fld W (cS c t k (.int .u32 0) (.int .i32 1) dg V0) 0 → Fld (W.setCells c 12 (stepsV t).toList) (cS c t k (.int .u32 0) (.int .i32 1) dg (stepsV t)) 0) := fun dg W hW => cS_steps hW hV0 _ HSZ.out
  have HOUT : Hid (∀ W : World, W.cell? ⟨c, 5, none⟩ = some (.int .u32 1) → (W.setCells c 12 (stepsV t).toList).cell? ⟨c, 5, none⟩ = some (.int .u32 1)) := fun W h => (World.cell?_setCells_out c (stepsV t).toList 12 W ⟨c, 5, none⟩ (fun _ _ => .inl (by show 5 < 12; omega))).trans h
  generalize stepsV t = V at *
  generalize 13 * t = d at *
  clear h hp hV0 gl1 gl2 gl3 hpl hcl
  go_enter Tryz.func110, Tryz.ntmps110
  go_wp2_with fail
  go_region_with (go_at_call 111; refine (HGEN.out _ (Upd.refl noBlock w).drew).mono ?_; rintro e w2 ⟨v, rfl, hgp, hf, hone, hu⟩; have k2 := HP.out w2 ((Upd.refl (oneBlock c) w).drew.trans hu); have k3 : w2.cell? ⟨c, 0, none⟩ = some (.int .i64 (t : Int)) := hf.out 0 (.inl (by show 0 < 5; omega)))
  all_goals
    obtain ⟨p, n, cc, rfl, hi, hm, hnc, hg⟩ := hgp
    have hlen := hi.1
    have hn2 : n ≤ 200 := by have := HG2.out; omega
    rw [HG1.out] at hi
    have hn1 : 0 < n := by have := hi.1; rw [List.length_cons] at this; omega
    obtain ⟨g, off, hpe, hgw, hcl⟩ := hi.cell hn1
    subst hpe
    have a1 : w2.drew.cell? ⟨g, off, none⟩ = some (.int .i64 (d : Int)) := hcl 0 hn1
    have hgb : w.heap.size ≤ g := hg g rfl
    have hgc : ¬ g = c := by have := HC.out; omega
    have hu0 : Upd (oneBlock c) w w2 := (Upd.refl (oneBlock c) w).drew.trans hu
    have a0 := HP.out w2.drew hu0.drew
    have a2 : w2.drew.cell? ⟨c, 11, none⟩ = some (.int .i64 0) := hf.out 11 (.inr (Nat.le_refl _))
    have a3 : w2.drew.frozen? ⟨c, 11, none⟩ = false := hf.fr 11
    have hzn : (0 : Int) < (n : Int) := by omega
    have F3 : Hid (Fld (w2.setCell ⟨c, 11, none⟩ (.int .i64 (d : Int))).drew (cS c t k (.int .u32 0) (.int .i32 1) (d : Int) V0) 0) := (cS_deg hf (d : Int)).keep (Upd.refl _ _).drew
    have O3 : Hid ((w2.setCell ⟨c, 11, none⟩ (.int .i64 (d : Int))).drew.cell? ⟨c, 5, none⟩ = some (.int .u32 1)) := (World.cell?_setCell_other w2 ⟨c, 11, none⟩ ⟨c, 5, none⟩ _ (by simp)).trans hone
    have U2 : Upd (oneBlock c) w2 (w2.setCell ⟨c, 11, none⟩ (.int .i64 (d : Int))).drew := ((Upd.refl (oneBlock c) w2).setCell (p := ⟨c, 11, none⟩) (.inl rfl) _).drew
    have U3 := Lib.hid (hu0.trans U2)
    have I3 := Lib.hid (hi.upd U2.drew (Nat.le_refl _) (fun g' hg' _ e => hgc (by
      have e1 : g = g' := by simpa using hg'
      exact e1.trans e)))
    have hs3 : w2.heap.size ≤ (w2.setCell ⟨c, 11, none⟩ (.int .i64 (d : Int))).drew.drew.heap.size := U2.drew.size
    have HS3 := Lib.hid (HST.out _ n cc _ _ I3.out hs3 hnc hn2)
    clear hi hcl hgw hlen hu hu0 hf hone U2 k2 k3 k0 k1 hs3 hm hg I3 hgb
    go_wp2_with fail
    go_region
    all_goals
      obtain ⟨w3, hw3⟩ : ∃ w3, w3 = (w2.setCell ⟨c, 11, none⟩ (.int .i64 (d : Int))).drew := ⟨_, rfl⟩
      rw [← hw3] at F3 U3 HS3 O3
      rw [← hw3]
      clear hw3 a0 a1 a2 a3
      have b0 := HP.out w3.drew U3.out.drew
      go_wp2_with fail
      go_region_with (go_at_call 112; refine HS3.out.mono ?_; rintro e w4 ⟨rfl, u4⟩; have v4 : Upd noBlock w3 w4 := ((Upd.refl noBlock w3).drew).trans u4; have b1 := HP.out w4 (U3.out.trans v4.one); have F4 := Lib.hid (F3.out.keep v4); have U4 := Lib.hid (U3.out.trans v4.one); have hst := HSTO.out _ w4 F4.out; have F5 := Lib.hid (HFIN.out _ w4 F4.out); have O5 := Lib.hid (HOUT.out _ (upd_cellS v4 O3.out)); have U5 := Lib.hid (HUP.out _ U4.out); clear u4 v4)
      all_goals
        have f5 := F5.out
        have u5 := U5.out
        have o5 := O5.out
        first
          | (go_end0; exact ⟨rfl, f5, o5, u5⟩)
          | (go_wp2_with fail; go_end0; exact ⟨rfl, f5, o5, u5⟩)

end Go.Proofs.YtoledgpcgjdjjaaGreatDoor

/- ready, from outside. -/
namespace Go.Proofs.YtoledgpcgjdjjaaGreatDoor
open Go.RowKit Pm Gfm
attribute [local irreducible] Pm.exps pmul mp GG mpol tl tabA byteStep tailR stepsV

def Raw (w : World) (c t : Nat) (k : Int) : Prop := ∃ V0 : Array Value, V0.size = 512 ∧ Fld w (cS c t k (.int .u32 0) (.int .i32 0) 0 V0) 0
def Made (w : World) (c t : Nat) (k : Int) : Prop := ∃ n : Int, Ready w (cS c t k (.int .u32 1) (.int .i32 0) ((13 * t : Nat) : Int) (stepsV t)) n
def CodeP (w : World) (c t : Nat) (k : Int) : Prop := Raw w c t k ∨ Made w c t k
theorem Fld.ready1 {w : World} {b : Spt} {n : Int} (h : Fld w b n) (h1 : w.cell? ⟨b.blk, b.off, none⟩ = some (.int .u32 1)) : Ready w b n := by
  rcases h with h | h
  · have := (FB.c0 h).symm.trans h1
    cases this
  · exact h
theorem Made.code {w : World} {c t : Nat} {k : Int} (h : Made w c t k) : CodeP w c t k := .inr h
theorem Made.keep {w w' : World} {c t : Nat} {k : Int} (h : Made w c t k) (hu : Upd noBlock w w') : Made w' c t k := h.imp fun _ h => Ready.keep h hu
theorem CodeP.keep {w w' : World} {c t : Nat} {k : Int} (h : CodeP w c t k) (hu : Upd noBlock w w') : CodeP w' c t k := by
  rcases h with ⟨V0, hV, h⟩ | h
  · exact .inl ⟨V0, hV, h.keep hu⟩
  · exact .inr (h.keep hu)
theorem Made.lt {w : World} {c t : Nat} {k : Int} (h : Made w c t k) : c < w.heap.size := h.elim fun _ h => Fld.lt h.fld
theorem CodeP.lt {w : World} {c t : Nat} {k : Int} (h : CodeP w c t k) : c < w.heap.size := by
  rcases h with ⟨V0, hV, h⟩ | h
  · exact h.lt
  · exact h.lt
theorem Made.t {w : World} {c t : Nat} {k : Int} (h : Made w c t k) : w.cell? ⟨c, 0, none⟩ = some (.int .i64 (t : Int)) := h.elim fun _ h => Fld.out (Ready.fld h) 0 (.inl (by show 0 < 5; omega))
theorem Made.k {w : World} {c t : Nat} {k : Int} (h : Made w c t k) : w.cell? ⟨c, 1, none⟩ = some (.int .i64 k) := h.elim fun _ h => Fld.out (Ready.fld h) 1 (.inl (by show 1 < 5; omega))
theorem Made.done {w : World} {c t : Nat} {k : Int} (h : Made w c t k) : w.cell? ⟨c, 2, none⟩ = some (.int .u32 1) := h.elim fun _ h => Fld.out (Ready.fld h) 2 (.inl (by show 2 < 5; omega))
theorem Made.deg {w : World} {c t : Nat} {k : Int} (h : Made w c t k) : w.cell? ⟨c, 11, none⟩ = some (.int .i64 ((13 * t : Nat) : Int)) := h.elim fun _ h => Fld.out (Ready.fld h) 11 (.inr (Nat.le_refl _))

set_option maxRecDepth 100000 in
theorem do_ready (c pl t : Nat) (k : Int) (V0 : Array Value) (w : World) (hV0 : V0.size = 512) (ht1 : 1 ≤ t) (ht8 : t ≤ 8) (h : Fld w (cS c t k (.int .u32 0) (.int .i32 0) 0 V0) 0)
    (hp : w.cell? ⟨pl, 0, none⟩ = some (.pointer (some ⟨c, 0, none⟩))) (hpl : ¬ pl = c) :
    Calls Tryz.prog 109 #[.pointer (some ⟨c, 2, none⟩), .func (.func 110) #[] #[.pointer (some ⟨pl, 0, none⟩)]] w fun e w' => e = .returned (.tuple #[]) ∧ Made w' c t k ∧ Upd (oneBlock c) w w' := by
  have u0 : Upd (oneBlock c) w (w.setCell ⟨c, 3, none⟩ (.int .i32 1)) := (Upd.refl (oneBlock c) w).setCell (p := ⟨c, 3, none⟩) (.inl rfl) _
  refine (do_gen 110 #[.pointer (some ⟨pl, 0, none⟩)] c 2 w (fun w1 => Fld w1 (cS c t k (.int .u32 0) (.int .i32 1) ((13 * t : Nat) : Int) (stepsV t)) 0 ∧ w1.cell? ⟨c, 5, none⟩ = some (.int .u32 1) ∧ Upd (oneBlock c) w w1) (fun _ _ => rfl)
    (h.out 2 (.inl (by show 2 < 5; omega))) (h.out 3 (.inl (by show 3 < 5; omega))) (h.fr 3)
    ((readyc_any c pl t k V0 _ hV0 ht1 ht8 (cS_mut h (.int .i32 1)) (cellO u0 hp hpl) hpl).mono fun e w' ⟨h1, h2, ho, h3⟩ => ⟨h1, h2, ho, u0.trans h3⟩) (fun w1 h => ?_)).mono fun e w' ⟨h1, w1, h2, h3⟩ => ⟨h1, ?_⟩
  · exact ⟨h.1.out 2 (.inl (by show 2 < 5; omega)), h.1.fr 2, h.1.out 3 (.inl (by show 3 < 5; omega)), h.1.fr 3⟩
  · subst h3
    exact ⟨⟨0, Fld.ready1 (cS_mut (cS_done (Fld.keep h2.1 (Upd.refl _ _).drew) (.int .u32 1)) (.int .i32 0)) ((World.cell?_setCell_other _ ⟨c, 3, none⟩ ⟨c, 5, none⟩ _ (by simp)).trans ((World.cell?_setCell_other _ ⟨c, 2, none⟩ ⟨c, 5, none⟩ _ (by simp)).trans h2.2.1))⟩, (h2.2.2.drew.setCell (p := ⟨c, 2, none⟩) (.inl rfl) _).setCell (p := ⟨c, 3, none⟩) (.inl rfl) _⟩

set_option maxRecDepth 100000 in
set_option maxHeartbeats 1600000 in
theorem ready_any (c t : Nat) (k : Int) (w : World) (h : CodeP w c t k) (ht1 : 1 ≤ t) (ht8 : t ≤ 8) :
    Calls Tryz.prog 84 #[.pointer (some ⟨c, 0, none⟩)] w fun e w' => e = .returned (.bool true) ∧ Made w' c t k ∧ Upd (oneBlock c) w w' ∧ (Made w c t k → Upd noBlock w w') := by
  have hl := h.lt
  have ua : Upd noBlock w (w.alloc (.cells #[.pointer (some ⟨c, 0, none⟩)] 116)) := (Upd.refl _ _).alloc _
  have HUA := Lib.hid ua
  have hd : decide (0 < 13 * t) = true := decide_eq_true (by omega)
  by_cases hm : Made w c t k
  · have HM := Lib.hid (hm.keep ua)
    clear h hm ua
    go_enter Tryz.func84, Tryz.ntmps84
    go_wp2_with (go_at_call 109; refine (do_done ⟨c, 2, none⟩ _ _ HM.out.done).mono ?_; rintro e w' ⟨rfl, rfl⟩; have kd := HM.out.deg)
    rw [show decide ((0 : Int) < 13 * (t : Int)) = true from decide_eq_true (by omega)]
    go_ret
    exact ⟨rfl, HM.out, HUA.out.one, fun _ => HUA.out⟩
  · rcases h with ⟨V0, hV, h⟩ | h
    · have HD := Lib.hid (do_ready c w.heap.size t k V0 _ hV ht1 ht8 (h.keep ua) (cell_of (heap_alloc_new w _) 0) (by omega))
      have HNM := Lib.hid hm
      clear h hm ua
      go_enter Tryz.func84, Tryz.ntmps84
      go_wp2_with (go_at_call 109; refine HD.out.mono ?_; rintro e w' ⟨rfl, hm', hu'⟩; have HM := Lib.hid hm'; have HU := Lib.hid hu'; have kd := HM.out.deg; have kp := cellO hu' (cell_of (heap_alloc_new w _) 0) (by show ¬ w.heap.size = c; omega))
      rw [show decide ((0 : Int) < 13 * (t : Int)) = true from decide_eq_true (by omega)]
      go_ret
      exact ⟨rfl, HM.out, HUA.out.one.trans HU.out, fun h => absurd h HNM.out⟩
    · exact absurd h hm
end Go.Proofs.YtoledgpcgjdjjaaGreatDoor

/- Parity; what a generator leaves of a text. -/
namespace Go.Proofs.YtoledgpcgjdjjaaGreatDoor
open Go.RowKit Pm Gfm

theorem u8_lt (b : UInt8) : b.toNat < 256 := b.toNat_lt
def stepS (t : Nat) : Nat → Rm := byteStep (tailR (13 * t) (tl t))
theorem stepS_ok (t q : Nat) (h1 : 1 ≤ t) (h8 : t ≤ 8) (hq : q < 256) : (stepS t q).Ok := byteStep_ok (tailR_ok _ _ (by omega)) q hq
theorem Made.step {w : World} {c t : Nat} {k : Int} (h : Made w c t k) (q : Nat) (hq : q < 256) :
    w.cell? ⟨c, 12 + q * 2, none⟩ = some (.int .u64 ((stepS t q).h : Int)) ∧ w.cell? ⟨c, 12 + q * 2 + 1, none⟩ = some (.int .u64 ((stepS t q).l : Int)) := by
  have e : ∀ j, (cS c t k (.int .u32 1) (.int .i32 0) ((13 * t : Nat) : Int) (stepsV t)).R (12 + j) = (tabA (stepS t))[j]? := fun j => by
    show cR t k (.int .u32 1) (.int .i32 0) ((13 * t : Nat) : Int) (tabA (stepS t)) (12 + j) = _
    unfold cR
    rw [if_neg (by omega), if_neg (by omega), if_neg (by omega), if_neg (by omega), if_neg (by omega), if_neg (by omega), if_pos (by omega), show 12 + j - 12 = j by omega]
  obtain ⟨n, h⟩ := h
  exact ⟨(Fld.out h.fld (12 + q * 2) (.inr (by show 5 + 6 ≤ _; omega))).trans ((e (q * 2)).trans (tabA_h _ _ hq)),
    (Fld.out h.fld (12 + q * 2 + 1) (.inr (by show 5 + 6 ≤ _; omega))).trans ((e (q * 2 + 1)).trans (tabA_l _ _ hq))⟩
def remStep (S : Nat → Rm) (r : Rm) (b : UInt8) : Rm := r.sh8.plus (S (r.first ^^^ b.toNat))
def remOf (S : Nat → Rm) (l : List UInt8) : Rm := l.foldl (remStep S) Rm.zero
theorem remOf_ok (t : Nat) (l : List UInt8) (h1 : 1 ≤ t) (h8 : t ≤ 8) : (remOf (stepS t) l).Ok := by
  unfold remOf
  suffices h : ∀ (l : List UInt8) (r : Rm), r.Ok → (l.foldl (remStep (stepS t)) r).Ok from h l _ Rm.zero_ok
  intro l
  induction l with
  | nil => exact fun r h => h
  | cons b l ih => exact fun r h => ih _ (Rm.Ok.plus h.sh8 (stepS_ok t _ h1 h8 (Nat.xor_lt_two_pow (n := 8) h.first (u8_lt b))))
theorem remOf_take (S : Nat → Rm) (s : ByteArray) (k : Nat) (h : k < s.size) : remOf S (s.data.toList.take (k + 1)) = remStep S (remOf S (s.data.toList.take k)) s[k] := by
  have hl : k < s.data.toList.length := by simpa using h
  rw [List.take_succ_eq_append_getElem hl]
  unfold remOf
  rw [List.foldl_append]
  rfl
attribute [local irreducible] Pm.exps pmul mp GG mpol tl tabA byteStep tailR stepsV stepS remOf

set_option maxRecDepth 100000 in
set_option maxHeartbeats 1600000 in
theorem parity_any (c t : Nat) (k : Int) (w : World) (h : CodeP w c t k) (ht1 : 1 ≤ t) (ht8 : t ≤ 8) :
    Calls Tryz.prog 58 #[.pointer (some ⟨c, 0, none⟩)] w fun e w' => e = .returned (.int .i64 (((13 * t + 7) / 8 : Nat) : Int)) ∧ Made w' c t k ∧ Upd (oneBlock c) w w' ∧ (Made w c t k → Upd noBlock w w') := by
  have HR := Lib.hid (ready_any c t k w h ht1 ht8)
  obtain ⟨d, hd⟩ : ∃ d, 13 * t = d := ⟨_, rfl⟩
  have HD : Hid (∀ W, Made W c t k → W.cell? ⟨c, 11, none⟩ = some (.int .i64 (d : Int))) := fun W hW => hd ▸ hW.deg
  have hb : d ≤ 104 := by omega
  rw [hd]
  have w1 : IntKind.i64.wrap ((d : Int) + 7) = ((d + 7 : Nat) : Int) := by rw [IntKind.wrap_i64]; omega
  have w2 : IntKind.i64.wrap (((d + 7 : Nat) : Int) / 8) = (((d + 7) / 8 : Nat) : Int) := by rw [IntKind.wrap_i64]; omega
  have w3 : ((d + 7 : Nat) : Int) / 8 = (((d + 7) / 8 : Nat) : Int) := by omega
  clear h hd
  go_enter Tryz.func58, Tryz.ntmps58
  go_wp2_with (go_at_call 84; refine HR.out.mono ?_; rintro e w' ⟨rfl, hm, hu, hn⟩; have kd := HD.out w' hm; have HM := Lib.hid hm; have HU := Lib.hid hu; have HN := Lib.hid hn)
  go_ret
  exact ⟨by first | rfl | (congr 2; omega), HM.out, HU.out, HN.out⟩

set_option maxRecDepth 100000 in
set_option maxHeartbeats 3200000 in
theorem remainderOf_any (c t : Nat) (k : Int) (s : ByteArray) (w : World) (h : Made w c t k) (ht1 : 1 ≤ t) (ht8 : t ≤ 8) (hs : s.size ≤ maxLen) :
    Calls Tryz.prog 169 #[.pointer (some ⟨c, 0, none⟩), .string s] w fun e w' => e = .returned (remOf (stepS t) s.data.toList).agg ∧ Upd noBlock w w' := by
  unfold maxLen at hs
  have HM := Lib.hid h
  have HOK := Lib.hid (fun l => remOf_ok t l ht1 ht8)
  have HSO := Lib.hid (fun q (hq : q < 256) => stepS_ok t q ht1 ht8 hq)
  obtain ⟨rr, hrr⟩ : ∃ rr, remOf (stepS t) s.data.toList = rr := ⟨_, rfl⟩
  rw [hrr]
  have HRR := Lib.hid hrr
  clear h hrr
  go_enter Tryz.func169, Tryz.ntmps169
  go_wp2_with fail
  obtain ⟨wa, hwa⟩ : ∃ wa, wa = (w.alloc (.cells #[.int .u64 0, .int .u64 0] 174)).alloc (.cells #[.int .u64 0, .int .u64 0] 174) := ⟨_, rfl⟩
  have U0 : Hid (Upd noBlock w wa) := by rw [hwa]; exact ((Upd.refl _ _).alloc _).alloc _
  have Z0 : Hid (RB wa w.heap.size Rm.zero) := by rw [hwa]; exact block_alloc (heap_alloc_new w _) _
  have T0 : Hid (RB wa (w.heap.size + 1) (remOf (stepS t) (s.data.toList.take 0))) := by rw [hwa, List.take_zero]; unfold remOf; exact heap_new1 w _ _
  rw [← hwa]
  clear hwa
  go_loopw [9] (fun i wr => ∃ j : Nat, j ≤ s.size ∧ i = .int .i64 (j : Int) ∧ Hid (RB wr (w.heap.size + 1) (remOf (stepS t) (s.data.toList.take j))) ∧ Hid (RB wr w.heap.size Rm.zero) ∧ Hid (Upd noBlock w wr)) (fun i _ => s.size - (intOf i).toNat)
  case atStart => exact ⟨0, Nat.zero_le _, rfl, T0, Z0, U0⟩
  case round =>
    clear T0 Z0 U0
    obtain ⟨j, hj, rfl, HB, HZ, HU⟩ := hrel
    by_cases h0 : j < s.size
    · have hq := HOK.out (s.data.toList.take j)
      have HNX := Lib.hid (remOf_take (stepS t) s j h0)
      generalize remOf (stepS t) (s.data.toList.take j) = r at *
      have hb8 := u8_lt s[j]
      have hx : bits .xor .u8 (r.first : Int) (s[j].toNat : Int) = ((r.first ^^^ s[j].toNat : Nat) : Int) := u8_xor_nat _ _ hq.first hb8
      have hz : r.first ^^^ s[j].toNat < 256 := Nat.xor_lt_two_pow (n := 8) hq.first hb8
      have HSTEP : Hid (remOf (stepS t) (s.data.toList.take (j + 1)) = r.sh8.plus (stepS t (r.first ^^^ s[j].toNat))) := HNX.out
      generalize r.first ^^^ s[j].toNat = z at *
      have hpo := HSO.out z hz
      have HMS : Hid (∀ W, Upd noBlock w W → W.cell? ⟨c, 12 + z * 2, none⟩ = some (.int .u64 ((stepS t z).h : Int)) ∧ W.cell? ⟨c, 12 + z * 2 + 1, none⟩ = some (.int .u64 ((stepS t z).l : Int))) := fun W hW => (HM.out.keep hW).step z hz
      have HZL := Lib.hid hz
      generalize stepS t z = p at *
      have HRB : Hid (∀ W, Upd noBlock wr W → RB W (w.heap.size + 1) r) := fun W hW => HB.out.grow hW
      have k2 := (HRB.out wr.drew (Upd.refl _ _).drew).h
      have k3 := (HRB.out wr.drew (Upd.refl _ _).drew).l
      have HSH := Lib.hid (fun W => shifted8 r W hq)
      have HFI := Lib.hid (fun W => first_any r W hq)
      have HPL := Lib.hid (fun W => plus_any r.sh8 p W hq.sh8 hpo)
      have HFIN : Hid (∀ W, Upd noBlock wr W → RB ((W.setCell ⟨w.heap.size + 1, 0, none⟩ (.int .u64 ((r.sh8.plus p).h : Int))).setCell ⟨w.heap.size + 1, 1, none⟩ (.int .u64 ((r.sh8.plus p).l : Int))) (w.heap.size + 1) (r.sh8.plus p) ∧ RB ((W.setCell ⟨w.heap.size + 1, 0, none⟩ (.int .u64 ((r.sh8.plus p).h : Int))).setCell ⟨w.heap.size + 1, 1, none⟩ (.int .u64 ((r.sh8.plus p).l : Int))) w.heap.size Rm.zero ∧ Upd noBlock w ((W.setCell ⟨w.heap.size + 1, 0, none⟩ (.int .u64 ((r.sh8.plus p).h : Int))).setCell ⟨w.heap.size + 1, 1, none⟩ (.int .u64 ((r.sh8.plus p).l : Int)))) := fun W hW =>
        ⟨(HRB.out W hW).set _, block_set_other (block_set_other (HZ.out.grow hW) (by show ¬ w.heap.size = w.heap.size + 1; omega) _) (by show ¬ w.heap.size = w.heap.size + 1; omega) _,
          ((HU.out.trans hW).setCell (.inr (Nat.le_succ _)) _).setCell (.inr (Nat.le_succ _)) _⟩
      unfold Rm.agg at HSH HFI HPL
      clear HB hq hb8 HNX hpo
      have hzi : (z : Int) < 256 := by omega
      go_wp2_with fail
      go_region_with (first
        | (go_at_call 150; refine (HSH.out _).mono ?_; rintro e w2 ⟨rfl, u2⟩; have v2 := ((Upd.refl noBlock wr).drew).trans u2; have a2 := (HRB.out w2 v2).h; have a3 := (HRB.out w2 v2).l)
        | (go_at_call 208; refine (HFI.out _).mono ?_; rintro e w3 ⟨rfl, u3⟩; have v3 := v2.trans u3; have b2 := (HMS.out w3 (HU.out.trans v3)).1; have b3 := (HMS.out w3 (HU.out.trans v3)).2)
        | (go_at_call 148; refine (HPL.out _).mono ?_; rintro e w4 ⟨rfl, u4⟩; have v4 := v3.trans u4; have c2 := (HRB.out w4 v4).h; have c3 := (HRB.out w4 v4).l; have c4 := (HRB.out w4 v4).f 0; have c5 := (HRB.out w4 v4).f 1))
      all_goals
        have hfin := HFIN.out w4 v4
        have F1 := Lib.hid hfin.1
        have F2 := Lib.hid hfin.2.1
        have F3 := Lib.hid hfin.2.2
        clear hfin
        go_wp2
        go_roundw
        case rel => exact ⟨j + 1, by omega, by go_num, by rw [HSTEP.out]; exact F1, F2, F3⟩
        case measure => simp [intOf]; omega
    · obtain rfl : j = s.size := by omega
      have e : s.data.toList.take s.size = s.data.toList := List.take_of_length_le (by simp)
      rw [e, HRR.out] at HB
      obtain ⟨r, rfl⟩ : ∃ r, r = rr := ⟨_, rfl⟩
      have k2 := HB.out.h
      have k3 := HB.out.l
      have z2 := HZ.out.h
      have z3 := HZ.out.l
      have z4 := HZ.out.f 0
      have z5 := HZ.out.f 1
      have HL : Hid (RB ((wr.setCell ⟨w.heap.size, 0, none⟩ (.int .u64 (r.h : Int))).setCell ⟨w.heap.size, 1, none⟩ (.int .u64 (r.l : Int))) w.heap.size r) := HZ.out.set r
      have HUL : Hid (Upd noBlock w ((wr.setCell ⟨w.heap.size, 0, none⟩ (.int .u64 (r.h : Int))).setCell ⟨w.heap.size, 1, none⟩ (.int .u64 (r.l : Int)))) := (HU.out.setCell (p := ⟨w.heap.size, 0, none⟩) (.inr (Nat.le_refl _)) _).setCell (p := ⟨w.heap.size, 1, none⟩) (.inr (Nat.le_refl _)) _
      go_wp2_with fail
      exact bodyPost_ret_by (ret_rm rfl _ _ w.heap.size _ _ rfl HL.out) rfl ⟨rfl, HUL.out⟩
end Go.Proofs.YtoledgpcgjdjjaaGreatDoor

/- The calls on a Code's own field, its tables below a bound, however often it was asked. -/
namespace Go.Proofs.YtoledgpcgjdjjaaGreatDoor
open Go.RowKit Gfm
set_option linter.unusedVariables false

def RdyB (B : Nat) (w : World) (b : Spt) : Prop := b.blk < B ∧ ∃ (n : Int) (pb lb : Nat), pb < B ∧ lb < B ∧
  FB w b (.int .u32 1) (.int .i32 0) (.int .u32 0) (.slice (some ⟨pb, 0, none⟩) 16382 16382) (.slice (some ⟨lb, 0, none⟩) 8192 8192) (.int .i64 n) ∧
  w.rowIs pb 3 16382 (powRow 8191) ∧ w.rowIs lb 3 8192 (logRow 8191)
theorem RdyB.keep {B : Nat} {w w' : World} {b : Spt} (h : RdyB B w b) {R : Nat → Prop} (hu : Upd R w w') (hR : ∀ i, i < B → ¬ R i) : RdyB B w' b := by
  obtain ⟨hc, n, pb, lb, h1, h2, hb, hp, hl⟩ := h
  exact ⟨hc, n, pb, lb, h1, h2, hb.upd hu (hR _ hc), hp.of_block (hu.block _ hp.lt (hR _ h1)), hl.of_block (hu.block _ hl.lt (hR _ h2))⟩
theorem RdyB.grow {B : Nat} {w w' : World} {b : Spt} (h : RdyB B w b) (hu : Upd noBlock w w') : RdyB B w' b := h.keep hu fun _ _ h => h
theorem RdyB.ready {B : Nat} {w : World} {b : Spt} (h : RdyB B w b) : ∃ n, Ready w b n := by
  obtain ⟨_, n, pb, lb, _, _, hb, hp, hl⟩ := h
  exact ⟨n, pb, lb, hb, hp, hl⟩
set_option maxRecDepth 100000 in
set_option maxHeartbeats 1600000 in
theorem mul_R (B : Nat) (b : Spt) (a c : Int) (w : World) (h : RdyB B w b) :
    Calls Tryz.prog 233 #[.pointer (some ⟨b.blk, b.off, none⟩), .int .i64 a, .int .i64 c] w fun e w' =>
      e = .returned (.int .i64 (mul (low a) (low c) : Nat)) ∧ RdyB B w' b ∧ Upd (oneBlock b.blk) w w' := by
  obtain ⟨n, hn⟩ := h.ready
  obtain ⟨hc5, hz5⟩ := hn.fld.cell5
  have hadd := run_call_add (P := Tryz.prog) Tryz.func264 (by kernel_rfl) (by kernel_rfl) (by kernel_rfl) .i64 (by kernel_rfl) (y := 1) (s := IntKind.i64.wrap (n + 1)) hc5 hz5 (by simp [go_sem])
  have m1 : bits .and .i64 a 8191 = ((low a : Nat) : Int) := by rw [i64_8191, low_eq]
  have m2 : bits .and .i64 c 8191 = ((low c : Nat) : Int) := by rw [i64_8191, low_eq]
  have hbl := hn.fld.block.choose_spec
  have HB : Hid (∀ m : Int, RdyB B (w.setCell ⟨b.blk, b.off + 5, none⟩ (.int .i64 m)) b) := fun m => by
    obtain ⟨hcB, n, pb, lb, hpB, hlB, hb, hp, hl⟩ := h
    exact ⟨hcB, m, pb, lb, hpB, hlB, hb.set5 _, hp.setOther (rowIs_ne hp hbl) _, hl.setOther (rowIs_ne hl hbl) _⟩
  have HU : Hid (∀ m : Int, Upd (oneBlock b.blk) w (w.setCell ⟨b.blk, b.off + 5, none⟩ (.int .i64 m))) := fun m => (Upd.refl (oneBlock b.blk) w).setCell (p := ⟨b.blk, b.off + 5, none⟩) (.inl rfl) _
  have HPREP : Hid (∀ W, RdyB B W b → Calls Tryz.prog 221 #[.pointer (some ⟨b.blk, b.off, none⟩)] W fun e w' => e = .returned (.tuple #[]) ∧ Upd noBlock W w') := fun W hW => by
    obtain ⟨m, hm⟩ := hW.ready
    exact (prepare_ready _ m W hm).mono fun e w' ⟨h1, _, h3⟩ => ⟨h1, h3⟩
  have HPROD : Hid (∀ W, RdyB B W b → Calls Tryz.prog 249 #[.pointer (some ⟨b.blk, b.off, none⟩), .int .i64 ((low a : Nat) : Int), .int .i64 ((low c : Nat) : Int)] W fun e w' => e = .returned (.int .i64 (mul (low a) (low c) : Nat)) ∧ ∃ k, w' = W.drewN k) := fun W hW => by
    obtain ⟨m, hm⟩ := hW.ready
    exact product_any _ (low a) (low c) m W hm (low_lt a) (low_lt c)
  generalize IntKind.i64.wrap (n + 1) = m at *
  have HB0 := Lib.hid (HB.out m)
  have HU0 := Lib.hid (HU.out m)
  clear hn hbl h HB HU
  go_enter Tryz.func233, Tryz.ntmps233
  go_wp2_with (first
    | (go_at_call 254; go_in)
    | (go_at_call 221; refine (HPREP.out _ HB0.out).mono ?_; rintro e w1 ⟨rfl, hv⟩; have HV := Lib.hid hv; have HB1 := Lib.hid (HB0.out.grow hv); clear hv)
    | (go_at_call 249; refine (HPROD.out _ HB1.out).mono ?_; rintro e w2 ⟨rfl, q, rfl⟩))
  go_ret
  exact ⟨rfl, HB1.out.grow ((Upd.refl noBlock _).drewN q), (HU0.out.trans HV.out.one).drewN q⟩
def MadeB (B : Nat) (w : World) (c t : Nat) (k : Int) : Prop := RdyB B w (cS c t k (.int .u32 1) (.int .i32 0) ((13 * t : Nat) : Int) (stepsV t))
theorem Made.bound {w : World} {c t : Nat} {k : Int} (h : Made w c t k) (B : Nat) (hB : w.heap.size ≤ B) : MadeB B w c t k := by
  have hlt := h.lt
  obtain ⟨n, pb, lb, hb, hp, hl⟩ := h
  exact ⟨Nat.lt_of_lt_of_le hlt hB, n, pb, lb, Nat.lt_of_lt_of_le hp.lt hB, Nat.lt_of_lt_of_le hl.lt hB, hb, hp, hl⟩
theorem MadeB.made {B : Nat} {w : World} {c t : Nat} {k : Int} (h : MadeB B w c t k) : Made w c t k := RdyB.ready h
theorem MadeB.keep {B : Nat} {w w' : World} {c t : Nat} {k : Int} (h : MadeB B w c t k) {R : Nat → Prop} (hu : Upd R w w') (hR : ∀ i, i < B → ¬ R i) : MadeB B w' c t k := RdyB.keep h hu hR
theorem MadeB.grow {B : Nat} {w w' : World} {c t : Nat} {k : Int} (h : MadeB B w c t k) (hu : Upd noBlock w w') : MadeB B w' c t k := RdyB.grow h hu
theorem MadeB.lt {B : Nat} {w : World} {c t : Nat} {k : Int} (h : MadeB B w c t k) : c < B := h.1
theorem mul_B (B c t : Nat) (k a b : Int) (w : World) (h : MadeB B w c t k) :
    Calls Tryz.prog 233 #[.pointer (some ⟨c, 5, none⟩), .int .i64 a, .int .i64 b] w fun e w' =>
      e = .returned (.int .i64 (mul (low a) (low b) : Nat)) ∧ MadeB B w' c t k ∧ Upd (oneBlock c) w w' := mul_R B _ a b w h
set_option maxRecDepth 100000 in
theorem exp_B (B c t : Nat) (k a : Int) (w : World) (h : MadeB B w c t k) :
    Calls Tryz.prog 195 #[.pointer (some ⟨c, 5, none⟩), .int .i64 a] w fun e w' =>
      e = .returned (.int .i64 (pw (trn a) : Nat)) ∧ Upd noBlock w w' := by
  obtain ⟨n, hn⟩ := h.made
  exact (exp_ready _ n a w hn).mono fun e w' ⟨h1, _, h3⟩ => ⟨h1, h3⟩
set_option maxRecDepth 100000 in
theorem log_B (B c t : Nat) (k a : Int) (w : World) (h : MadeB B w c t k) (ha : low a ≠ 0) :
    Calls Tryz.prog 224 #[.pointer (some ⟨c, 5, none⟩), .int .i64 a] w fun e w' =>
      e = .returned (.tuple #[.int .i64 (lg (low a) : Nat), .bool true]) ∧ Upd noBlock w w' := by
  obtain ⟨n, hn⟩ := h.made
  exact (log_ready _ n a w hn ha).mono fun e w' ⟨h1, _, h3⟩ => ⟨h1, h3⟩
set_option maxRecDepth 100000 in
theorem log_zero (c : Nat) (a : Int) (w : World) (ha : low a = 0) :
    Calls Tryz.prog 224 #[.pointer (some ⟨c, 5, none⟩), .int .i64 a] w fun e w' =>
      e = .returned (.tuple #[.int .i64 0, .bool false]) ∧ w = w' := log_no ⟨c, 5, 177, fun _ => none, by decide⟩ a w ha
set_option maxRecDepth 100000 in
set_option maxHeartbeats 1600000 in
theorem inv_ready (b : Spt) (n a : Int) (w : World) (h : Ready w b n) (ha : low a ≠ 0) :
    Calls Tryz.prog 231 #[.pointer (some ⟨b.blk, b.off, none⟩), .int .i64 a] w fun e w' =>
      e = .returned (.tuple #[.int .i64 (invN (low a) : Nat), .bool true]) ∧ Upd noBlock w w' := by
  have HF := Lib.hid h
  have hlg := lg_lt (low a)
  have Hv : Hid (invN (low a) = pw (8191 - lg (low a))) := by unfold invN; exact if_neg ha
  have HA := Lib.hid ha
  have hnot : ∀ (x : Bool) (w : World), (Op.unary .not (.bool x)).run Tryz.prog w = .ok (.bool (!x)) w := fun _ _ => rfl
  have s1 : (8191 : Int) - ((lg (low a) : Nat) : Int) = ((8191 - lg (low a) : Nat) : Int) := by omega
  clear h ha
  go_enter Tryz.func231, Tryz.ntmps231
  go_wp2_with (go_at_call 224; refine (log_ready b n a _ HF.out HA.out).mono ?_; rintro e w1 ⟨rfl, HR0, HV0⟩; have HR := Lib.hid HR0; have HV := Lib.hid HV0; clear HR0 HV0; obtain ⟨pb, lb, hb, hp, hl⟩ := HR.out; have c3 : w1.cell? ⟨b.blk, b.off + 3, none⟩ = some (.slice (some ⟨pb, 0, none⟩) 16382 16382) := hb.c3; have p1 : w1.cell? ⟨pb, 8191 - lg (low a), none⟩ = some (powRow 8191 (8191 - lg (low a))) := hp.cell (i := 8191 - lg (low a)) (by omega); clear hb hp hl)
  go_ret2
  refine ⟨?_, HV.out⟩
  rw [Hv.out]
  unfold powRow
  by_cases g : 8191 - lg (low a) < 8191
  · rw [if_pos g]; rfl
  · rw [if_neg g, if_pos (by omega)]; rfl
set_option maxRecDepth 100000 in
theorem inv_B (B c t : Nat) (k a : Int) (w : World) (h : MadeB B w c t k) (ha : low a ≠ 0) :
    Calls Tryz.prog 231 #[.pointer (some ⟨c, 5, none⟩), .int .i64 a] w fun e w' =>
      e = .returned (.tuple #[.int .i64 (invN (low a) : Nat), .bool true]) ∧ Upd noBlock w w' := by
  obtain ⟨n, hn⟩ := h.made
  exact (inv_ready (cS c t k (.int .u32 1) (.int .i32 0) ((13 * t : Nat) : Int) (stepsV t)) n a w hn ha).mono fun e w' ⟨h1, h3⟩ => ⟨h1, h3⟩
end Go.Proofs.YtoledgpcgjdjjaaGreatDoor
