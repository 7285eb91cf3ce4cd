/- A Code in memory. -/
import Derived.Test.YtnimgkijodfjkaaKIb
import Derived.Test.YtnimgkijodfjkaaKGHu
import Derived.Deep.MidRow
import Derived.Laws.IdiomCopy
namespace Go.Proofs.Ytnimgkijodfjkaa
open Go.RowKit Pm Gfm

theorem setCells_block {b : Nat} {t : TypeId} {z : Nat × Nat} : ∀ (vs : List Value) (o : Nat) (w : World) (C : Array Value), w.heap[b]? = some (.cells C t z) → ∃ C', (w.setCells b o vs).heap[b]? = some (.cells C' t z) ∧ C'.size = C.size ∧ ∀ j, C'[j]? = if o ≤ j ∧ j < o + vs.length ∧ j < C.size then vs[j - o]? else C[j]?
  | [], o, w, C, h => ⟨C, h, rfl, fun j => by rw [if_neg (by simp only [List.length_nil]; omega)]⟩
  | v :: r, o, w, C, h => by
    obtain ⟨C', h1, h2, h3⟩ := setCells_block r (o + 1) _ _ (block_set (i := o) h v)
    rw [Array.size_setIfInBounds] at h2
    refine ⟨C', h1, h2, fun j => ?_⟩
    rw [h3 j, Array.size_setIfInBounds, List.length_cons]
    rcases Nat.lt_trichotomy j o with e | e | e
    · rw [if_neg (by omega), if_neg (by omega), Array.getElem?_setIfInBounds, if_neg (by omega)]
    · subst e
      rw [if_neg (by omega), Array.getElem?_setIfInBounds, if_pos rfl]
      by_cases hj : j < C.size
      · rw [if_pos hj, if_pos ⟨Nat.le_refl _, by omega, hj⟩, Nat.sub_self]; rfl
      · rw [if_neg hj, if_neg (by omega)]; exact (Array.getElem?_eq_none (by omega)).symm
    · have hne : ¬ o = j := by omega
      simp only [Array.getElem?_setIfInBounds, hne, if_false]
      clear hne
      obtain ⟨q, rfl⟩ : ∃ q, j = o + 1 + q := ⟨j - (o + 1), by omega⟩
      rw [show o + 1 + q - o = q + 1 by omega, show o + 1 + q - (o + 1) = q by omega, List.getElem?_cons_succ]
      by_cases c : o + 1 + q < o + 1 + r.length ∧ o + 1 + q < C.size
      · rw [if_pos ⟨by omega, c⟩, if_pos ⟨by omega, by omega, c.2⟩]
      · rw [if_neg (fun h => c h.2), if_neg (fun h => c ⟨by omega, h.2.2⟩)]
theorem Upd.setCells {R : Nat → Prop} {a : World} {b : Nat} (hb : R b ∨ a.heap.size ≤ b) : ∀ (vs : List Value) (o : Nat) {w : World}, Upd R a w → Upd R a (w.setCells b o vs)
  | [], _, _, h => h
  | v :: r, o, _, h => Upd.setCells hb r (o + 1) (h.setCell (p := ⟨b, o, none⟩) hb v)

/-! ### the cells besides a field -/
theorem Fld.out {w : World} {b : Spt} {n : Int} (h : Fld w b n) (j : Nat) (hj : j < b.off ∨ b.off + 6 ≤ j) : w.cell? ⟨b.blk, j, none⟩ = b.R j := by
  rcases h with h | ⟨_, _, h, _⟩
  · obtain ⟨C, hb, _, _, _, _, _, _, r⟩ := h; rw [cell_of hb]; exact r j hj
  · obtain ⟨C, hb, _, _, _, _, _, _, r⟩ := h; rw [cell_of hb]; exact r j hj
theorem Fld.fr {w : World} {b : Spt} {n : Int} (h : Fld w b n) (j : Nat) : w.frozen? ⟨b.blk, j, none⟩ = false := by
  obtain ⟨c, hc⟩ := h.block; exact free_of hc j
theorem FB.turn {w w' : World} {b b' : Spt} {d s m p l n : Value} (h : FB w b d s m p l n) (e1 : b'.blk = b.blk) (e2 : b'.off = b.off) (e3 : b'.T = b.T)
    (hC : ∀ C : Array Value, w.heap[b.blk]? = some (.cells C b.T (0, 0)) → (∀ j, j < b.off ∨ b.off + 6 ≤ j → C[j]? = b.R j) → ∃ C' : Array Value, w'.heap[b.blk]? = some (.cells C' b.T (0, 0)) ∧ (∀ j, b.off ≤ j → j < b.off + 6 → C'[j]? = C[j]?) ∧ (∀ j, j < b.off ∨ b.off + 6 ≤ j → C'[j]? = b'.R j)) : FB w' b' d s m p l n := by
  obtain ⟨C, hb, h0, h1, h2, h3, h4, h5, r⟩ := h
  obtain ⟨C', hb', k, k'⟩ := hC C hb r
  refine ⟨C', ?_, ?_, ?_, ?_, ?_, ?_, ?_, ?_⟩
  · rw [e1, e3]; exact hb'
  · rw [e2, k _ (by omega) (by omega)]; exact h0
  · rw [e2, k _ (by omega) (by omega)]; exact h1
  · rw [e2, k _ (by omega) (by omega)]; exact h2
  · rw [e2, k _ (by omega) (by omega)]; exact h3
  · rw [e2, k _ (by omega) (by omega)]; exact h4
  · rw [e2, k _ (by omega) (by omega)]; exact h5
  · rw [e2]; exact k'
theorem Fld.turn {w w' : World} {b b' : Spt} {n : Int} (h : Fld w b n) (e1 : b'.blk = b.blk) (e2 : b'.off = b.off) (e3 : b'.T = b.T) (hu : Upd (oneBlock b.blk) w w')
    (hC : ∀ C : Array Value, w.heap[b.blk]? = some (.cells C b.T (0, 0)) → (∀ j, j < b.off ∨ b.off + 6 ≤ j → C[j]? = b.R j) → ∃ C' : Array Value, w'.heap[b.blk]? = some (.cells C' b.T (0, 0)) ∧ (∀ j, b.off ≤ j → j < b.off + 6 → C'[j]? = C[j]?) ∧ (∀ j, j < b.off ∨ b.off + 6 ≤ j → C'[j]? = b'.R j)) : Fld w' b' n := by
  rcases h with h | ⟨pb, lb, h, hp, hl⟩
  · exact .inl (h.turn e1 e2 e3 hC)
  · obtain ⟨c, hc⟩ := h.block
    exact .inr ⟨pb, lb, h.turn e1 e2 e3 hC, hp.of_block (hu.block _ hp.lt (rowIs_ne hp hc)), hl.of_block (hu.block _ hl.lt (rowIs_ne hl hc))⟩
theorem Fld.setOut {w : World} {b b' : Spt} {n : Int} (h : Fld w b n) (e1 : b'.blk = b.blk) (e2 : b'.off = b.off) (e3 : b'.T = b.T) (i : Nat) (v : Value) (hi : i < b.off ∨ b.off + 6 ≤ i)
    (hs : (b.R i).isSome = true) (hR : ∀ j, j < b.off ∨ b.off + 6 ≤ j → b'.R j = if j = i then some v else b.R j) : Fld (w.setCell ⟨b.blk, i, none⟩ v) b' n := by
  refine h.turn e1 e2 e3 ((Upd.refl (oneBlock b.blk) w).setCell (p := ⟨b.blk, i, none⟩) (.inl rfl) v) fun C hb hr => ⟨_, block_set hb v, fun j h1 h2 => ?_, fun j hj => ?_⟩
  · rw [Array.getElem?_setIfInBounds, if_neg (by omega)]
  · rw [hR j hj, Array.getElem?_setIfInBounds]
    by_cases e : i = j
    · subst e
      have hlt : i < C.size := by
        rw [← hr i hj, Option.isSome_iff_exists] at hs
        obtain ⟨a, ha⟩ := hs
        exact (Array.getElem?_eq_some_iff.1 ha).1
      rw [if_pos rfl, if_pos hlt, if_pos rfl]
    · rw [if_neg e, if_neg (fun h => e h.symm)]; exact hr j hj

/-! ### a Code -/
def cR (t k : Int) (d m : Value) (dg : Int) (V : Array Value) (j : Nat) : Option Value :=
  if j = 0 then some (.int .i64 t) else if j = 1 then some (.int .i64 k) else if j = 2 then some d else if j = 3 then some m else if j = 4 then some (.int .u32 0) else if j = 11 then some (.int .i64 dg) else if 12 ≤ j then V[j - 12]? else none
def cS (c : Nat) (t k : Int) (d m : Value) (dg : Int) (V : Array Value) : Spt := ⟨c, 5, 89, cR t k d m dg V, by decide⟩
theorem cS_deg {w : World} {c : Nat} {t k : Int} {d m : Value} {dg : Int} {V : Array Value} {n : Int} (h : Fld w (cS c t k d m dg V) n) (dg' : Int) : Fld (w.setCell ⟨c, 11, none⟩ (.int .i64 dg')) (cS c t k d m dg' V) n := by
  refine Fld.setOut (b' := cS c t k d m dg' V) h rfl rfl rfl 11 _ (.inr (Nat.le_refl _)) rfl fun j _ => ?_
  show cR t k d m dg' V j = if j = 11 then _ else cR t k d m dg V j
  unfold cR
  by_cases e : j = 11
  · subst e; rfl
  · simp only [e, if_false]
theorem cS_done {w : World} {c : Nat} {t k : Int} {d m : Value} {dg : Int} {V : Array Value} {n : Int} (h : Fld w (cS c t k d m dg V) n) (d' : Value) : Fld (w.setCell ⟨c, 2, none⟩ d') (cS c t k d' m dg V) n := by
  refine Fld.setOut (b' := cS c t k d' m dg V) h rfl rfl rfl 2 _ (.inl (by show 2 < 5; omega)) rfl fun j _ => ?_
  show cR t k d' m dg V j = if j = 2 then _ else cR t k d m dg V j
  unfold cR
  by_cases e : j = 2
  · subst e; rfl
  · simp only [e, if_false]
theorem cS_mut {w : World} {c : Nat} {t k : Int} {d m : Value} {dg : Int} {V : Array Value} {n : Int} (h : Fld w (cS c t k d m dg V) n) (m' : Value) : Fld (w.setCell ⟨c, 3, none⟩ m') (cS c t k d m' dg V) n := by
  refine Fld.setOut (b' := cS c t k d m' dg V) h rfl rfl rfl 3 _ (.inl (by show 3 < 5; omega)) rfl fun j _ => ?_
  show cR t k d m' dg V j = if j = 3 then _ else cR t k d m dg V j
  unfold cR
  by_cases e : j = 3
  · subst e; rfl
  · simp only [e, if_false]
theorem cS_there {w : World} {c : Nat} {t k : Int} {d m : Value} {dg : Int} {V : Array Value} {n : Int} (h : Fld w (cS c t k d m dg V) n) (hV : V.size = 512) : w.there c 12 512 := fun j hj => by
  refine ⟨?_, h.fr _⟩
  have h1 := h.out (12 + j) (.inr (by show 5 + 6 ≤ 12 + j; omega))
  have h2 : (cS c t k d m dg V).R (12 + j) = V[j]? := by
    show cR t k d m dg V (12 + j) = _
    unfold cR
    rw [if_neg (by omega), if_neg (by omega), if_neg (by omega), if_neg (by omega), if_neg (by omega), if_neg (by omega), if_pos (by omega), show 12 + j - 12 = j by omega]
  rw [h2, Array.getElem?_eq_getElem (by omega)] at h1
  show (w.cell? ⟨(cS c t k d m dg V).blk, 12 + j, none⟩).isSome = true
  rw [h1]; rfl
theorem cS_steps {w : World} {c : Nat} {t k : Int} {d m : Value} {dg : Int} {V : Array Value} {n : Int} (h : Fld w (cS c t k d m dg V) n) (hV : V.size = 512) (W : Array Value) (hW : W.size = 512) : Fld (w.setCells c 12 W.toList) (cS c t k d m dg W) n := by
  refine h.turn (b' := cS c t k d m dg W) rfl rfl rfl (Upd.setCells (R := oneBlock c) (.inl rfl) _ _ (Upd.refl (oneBlock c) w)) fun C hb hr => ?_
  obtain ⟨C', h1, h2, h3⟩ := setCells_block W.toList 12 w C hb
  have hlen : W.toList.length = 512 := by simpa using hW
  have hbig : 524 ≤ C.size := by
    have h4 := hr 523 (.inr (by show 5 + 6 ≤ 523; omega))
    have h5 : (cS c t k d m dg V).R 523 = V[511]? := rfl
    have h6 : V[511]? = some V[511] := Array.getElem?_eq_getElem (by omega)
    rw [h5, h6] at h4
    have := (Array.getElem?_eq_some_iff.1 h4).1
    omega
  refine ⟨C', h1, fun j a b => ?_, fun j hj => ?_⟩
  · have b' : j < 5 + 6 := b
    rw [h3 j, if_neg (by omega)]
  · show C'[j]? = cR t k d m dg W j
    have h6 : C[j]? = cR t k d m dg V j := hr j hj
    have hj' : j < 5 ∨ 5 + 6 ≤ j := hj
    rw [h3 j, hlen]
    by_cases c1 : 12 ≤ j ∧ j < 12 + 512
    · rw [if_pos ⟨c1.1, c1.2, by omega⟩, Array.getElem?_toList]
      unfold cR
      rw [if_neg (by omega), if_neg (by omega), if_neg (by omega), if_neg (by omega), if_neg (by omega), if_neg (by omega), if_pos (by omega)]
    · rw [if_neg (fun h => c1 ⟨h.1, h.2.1⟩), h6]
      unfold cR
      by_cases c2 : 12 ≤ j
      · rw [if_neg (by omega), if_neg (by omega), if_neg (by omega), if_neg (by omega), if_neg (by omega), if_neg (by omega), if_pos (by omega), if_neg (by omega), if_neg (by omega), if_neg (by omega), if_neg (by omega), if_neg (by omega), if_neg (by omega), if_pos (by omega), Array.getElem?_eq_none (by omega), Array.getElem?_eq_none (by omega)]
      · simp only [if_neg c2]

/-! ### the generator's list -/
theorem lst_len (n P : Nat) : (lst n P).length ≤ n := by
  induction n with
  | zero => simp [lst]
  | succ n ih =>
    unfold lst
    split
    · rw [List.length_cons]; omega
    · omega
def tl (t : Nat) : List Int := (exps (GG t)).tail
theorem gen_list (t : Nat) (h1 : 1 ≤ t) (h8 : t ≤ 8) : exps (GG t) = ((13 * t : Nat) : Int) :: tl t ∧ (exps (GG t)).length ≤ 105 ∧ ∀ k, k < (tl t).length → ∃ e : Nat, (tl t).getD k 0 = (e : Int) ∧ e < 13 * t := by
  obtain ⟨a1, a2⟩ := GG_deg t h8
  have hx := exps_top (GG t) (13 * t) a1 a2 (by omega)
  have ht : tl t = exps (GG t ^^^ 2 ^ (13 * t)) := by unfold tl; rw [hx]; rfl
  refine ⟨by rw [ht]; exact hx, ?_, fun k hk => ?_⟩
  · have e1 : exps (GG t) = lst (13 * t + 1) (GG t) := lst_up _ _ _ a2 (by unfold top; omega)
    rw [e1]
    exact Nat.le_trans (lst_len _ _) (by omega)
  · have hq : GG t ^^^ 2 ^ (13 * t) < 2 ^ (13 * t - 1 + 1) := by
      rw [show 13 * t - 1 + 1 = 13 * t by omega]
      have hb : (GG t).testBit (13 * t) = true := by
        rw [Nat.testBit_eq_decide_div_mod_eq]
        have l1 : 1 ≤ GG t / 2 ^ (13 * t) := (Nat.le_div_iff_mul_le (Nat.two_pow_pos _)).2 (by omega)
        have l2 : GG t / 2 ^ (13 * t) < 2 := (Nat.div_lt_iff_lt_mul (Nat.two_pow_pos _)).2 (by rw [Nat.pow_succ] at a2; omega)
        have e : GG t / 2 ^ (13 * t) = 1 := by omega
        rw [e]; rfl
      have e : GG t ^^^ 2 ^ (13 * t) = GG t % 2 ^ (13 * t) := by
        apply Nat.eq_of_testBit_eq
        intro i
        rw [Nat.testBit_xor, Nat.testBit_mod_two_pow, Nat.testBit_two_pow]
        rcases Nat.lt_trichotomy i (13 * t) with hi | hi | hi
        · have : decide (13 * t = i) = false := by simp; omega
          simp [hi, this]
        · subst hi; simp [hb]
        · have h3 : (GG t).testBit i = false := Nat.testBit_lt_two_pow (Nat.lt_of_lt_of_le a2 (Nat.pow_le_pow_right (by omega) hi))
          have : decide (13 * t = i) = false := by simp; omega
          rw [h3, this]; simp
      rw [e]
      exact Nat.mod_lt _ (Nat.two_pow_pos _)
    have hm := exps_mem ((tl t).getD k 0) (GG t ^^^ 2 ^ (13 * t)) (13 * t - 1) (by
      rw [← ht, List.getD_eq_getElem?_getD, List.getElem?_eq_getElem hk]; exact List.getElem_mem hk) hq (by omega)
    exact ⟨((tl t).getD k 0).toNat, by omega, by omega⟩
end Go.Proofs.Ytnimgkijodfjkaa
