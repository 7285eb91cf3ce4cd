/- ready, from outside. -/
import Derived.Test.YtnimgkijodfjkaaKId
namespace Go.Proofs.Ytnimgkijodfjkaa
open Go.RowKit Pm Gfm
attribute [local irreducible] Pm.exps pmul mp GG mpol tl tabA byteStep tailR stepsV

/-- a Code no call has made yet -/
def Raw (w : World) (c t : Nat) (k : Int) : Prop := ∃ V0 : Array Value, V0.size = 512 ∧ Fld w (cS c t k (.int .u32 0) (.int .i32 0) 0 V0) 0
/-- a Code with its generator's steps -/
def Made (w : World) (c t : Nat) (k : Int) : Prop := ∃ n : Int, Ready w (cS c t k (.int .u32 1) (.int .i32 0) ((13 * t : Nat) : Int) (stepsV t)) n
def CodeP (w : World) (c t : Nat) (k : Int) : Prop := Raw w c t k ∨ Made w c t k
theorem Fld.ready1 {w : World} {b : Spt} {n : Int} (h : Fld w b n) (h1 : w.cell? ⟨b.blk, b.off, none⟩ = some (.int .u32 1)) : Ready w b n := by
  rcases h with h | h
  · have := (FB.c0 h).symm.trans h1
    cases this
  · exact h
theorem Made.code {w : World} {c t : Nat} {k : Int} (h : Made w c t k) : CodeP w c t k := .inr h
theorem Made.keep {w w' : World} {c t : Nat} {k : Int} (h : Made w c t k) (hu : Upd noBlock w w') : Made w' c t k := h.imp fun _ h => Ready.keep h hu
theorem CodeP.keep {w w' : World} {c t : Nat} {k : Int} (h : CodeP w c t k) (hu : Upd noBlock w w') : CodeP w' c t k := by
  rcases h with ⟨V0, hV, h⟩ | h
  · exact .inl ⟨V0, hV, h.keep hu⟩
  · exact .inr (h.keep hu)
theorem Made.lt {w : World} {c t : Nat} {k : Int} (h : Made w c t k) : c < w.heap.size := h.elim fun _ h => Fld.lt h.fld
theorem CodeP.lt {w : World} {c t : Nat} {k : Int} (h : CodeP w c t k) : c < w.heap.size := by
  rcases h with ⟨V0, hV, h⟩ | h
  · exact h.lt
  · exact h.lt
theorem Made.t {w : World} {c t : Nat} {k : Int} (h : Made w c t k) : w.cell? ⟨c, 0, none⟩ = some (.int .i64 (t : Int)) := h.elim fun _ h => Fld.out (Ready.fld h) 0 (.inl (by show 0 < 5; omega))
theorem Made.k {w : World} {c t : Nat} {k : Int} (h : Made w c t k) : w.cell? ⟨c, 1, none⟩ = some (.int .i64 k) := h.elim fun _ h => Fld.out (Ready.fld h) 1 (.inl (by show 1 < 5; omega))
theorem Made.done {w : World} {c t : Nat} {k : Int} (h : Made w c t k) : w.cell? ⟨c, 2, none⟩ = some (.int .u32 1) := h.elim fun _ h => Fld.out (Ready.fld h) 2 (.inl (by show 2 < 5; omega))
theorem Made.deg {w : World} {c t : Nat} {k : Int} (h : Made w c t k) : w.cell? ⟨c, 11, none⟩ = some (.int .i64 ((13 * t : Nat) : Int)) := h.elim fun _ h => Fld.out (Ready.fld h) 11 (.inr (Nat.le_refl _))

set_option maxRecDepth 100000 in
theorem do_ready (c pl t : Nat) (k : Int) (V0 : Array Value) (w : World) (hV0 : V0.size = 512) (ht1 : 1 ≤ t) (ht8 : t ≤ 8) (h : Fld w (cS c t k (.int .u32 0) (.int .i32 0) 0 V0) 0)
    (hp : w.cell? ⟨pl, 0, none⟩ = some (.pointer (some ⟨c, 0, none⟩))) (hpl : ¬ pl = c) :
    Calls Try.prog 38 #[.pointer (some ⟨c, 2, none⟩), .func (.func 39) #[] #[.pointer (some ⟨pl, 0, none⟩)]] w fun e w' => e = .returned (.tuple #[]) ∧ Made w' c t k ∧ Upd (oneBlock c) w w' := by
  have u0 : Upd (oneBlock c) w (w.setCell ⟨c, 3, none⟩ (.int .i32 1)) := (Upd.refl (oneBlock c) w).setCell (p := ⟨c, 3, none⟩) (.inl rfl) _
  refine (do_gen 39 #[.pointer (some ⟨pl, 0, none⟩)] c 2 w (fun w1 => Fld w1 (cS c t k (.int .u32 0) (.int .i32 1) ((13 * t : Nat) : Int) (stepsV t)) 0 ∧ w1.cell? ⟨c, 5, none⟩ = some (.int .u32 1) ∧ Upd (oneBlock c) w w1) (fun _ _ => rfl)
    (h.out 2 (.inl (by show 2 < 5; omega))) (h.out 3 (.inl (by show 3 < 5; omega))) (h.fr 3)
    ((readyc_any c pl t k V0 _ hV0 ht1 ht8 (cS_mut h (.int .i32 1)) (cellO u0 hp hpl) hpl).mono fun e w' ⟨h1, h2, ho, h3⟩ => ⟨h1, h2, ho, u0.trans h3⟩) (fun w1 h => ?_)).mono fun e w' ⟨h1, w1, h2, h3⟩ => ⟨h1, ?_⟩
  · exact ⟨h.1.out 2 (.inl (by show 2 < 5; omega)), h.1.fr 2, h.1.out 3 (.inl (by show 3 < 5; omega)), h.1.fr 3⟩
  · subst h3
    exact ⟨⟨0, Fld.ready1 (cS_mut (cS_done (Fld.keep h2.1 (Upd.refl _ _).drew) (.int .u32 1)) (.int .i32 0)) ((World.cell?_setCell_other _ ⟨c, 3, none⟩ ⟨c, 5, none⟩ _ (by simp)).trans ((World.cell?_setCell_other _ ⟨c, 2, none⟩ ⟨c, 5, none⟩ _ (by simp)).trans h2.2.1))⟩, (h2.2.2.drew.setCell (p := ⟨c, 2, none⟩) (.inl rfl) _).setCell (p := ⟨c, 3, none⟩) (.inl rfl) _⟩

set_option maxRecDepth 100000 in
set_option maxHeartbeats 1600000 in
/-- ready, on a Code that New made -/
theorem ready_any (c t : Nat) (k : Int) (w : World) (h : CodeP w c t k) (ht1 : 1 ≤ t) (ht8 : t ≤ 8) :
    Calls Try.prog 30 #[.pointer (some ⟨c, 0, none⟩)] w fun e w' => e = .returned (.bool true) ∧ Made w' c t k ∧ Upd (oneBlock c) w w' ∧ (Made w c t k → Upd noBlock w w') := by
  have hl := h.lt
  have ua : Upd noBlock w (w.alloc (.cells #[.pointer (some ⟨c, 0, none⟩)] 51)) := (Upd.refl _ _).alloc _
  have HUA := Lib.hid ua
  have hd : decide (0 < 13 * t) = true := decide_eq_true (by omega)
  by_cases hm : Made w c t k
  · have HM := Lib.hid (hm.keep ua)
    clear h hm ua
    go_enter Try.func30, Try.ntmps30
    go_wp2_with (go_at_call 38; refine (do_done ⟨c, 2, none⟩ _ _ HM.out.done).mono ?_; rintro e w' ⟨rfl, rfl⟩; have kd := HM.out.deg)
    rw [show decide ((0 : Int) < 13 * (t : Int)) = true from decide_eq_true (by omega)]
    go_ret
    exact ⟨rfl, HM.out, HUA.out.one, fun _ => HUA.out⟩
  · rcases h with ⟨V0, hV, h⟩ | h
    · have HD := Lib.hid (do_ready c w.heap.size t k V0 _ hV ht1 ht8 (h.keep ua) (cell_of (heap_alloc_new w _) 0) (by omega))
      have HNM := Lib.hid hm
      clear h hm ua
      go_enter Try.func30, Try.ntmps30
      go_wp2_with (go_at_call 38; refine HD.out.mono ?_; rintro e w' ⟨rfl, hm', hu'⟩; have HM := Lib.hid hm'; have HU := Lib.hid hu'; have kd := HM.out.deg; have kp := cellO hu' (cell_of (heap_alloc_new w _) 0) (by show ¬ w.heap.size = c; omega))
      rw [show decide ((0 : Int) < 13 * (t : Int)) = true from decide_eq_true (by omega)]
      go_ret
      exact ⟨rfl, HM.out, HUA.out.one.trans HU.out, fun h => absurd h HNM.out⟩
    · exact absurd h hm
end Go.Proofs.Ytnimgkijodfjkaa
