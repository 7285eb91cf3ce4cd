/- Pick; the law's look. -/
import Derived.Test.YtkjajmhanhbkdaaVa
namespace Go.Proofs.Ytkjajmhanhbkdaa
open Go.RowKit

/-- what is picked: the first of the least -/
def Picked (p : Bk → Bool) (f : Nat → Bk) (n : Nat) (m : Int) : Prop :=
  (m = -1 ∧ ∀ j, j < n → p (f j) = false) ∨
  ∃ q : Nat, q < n ∧ m = (q : Int) ∧ p (f q) = true ∧ (∀ j, j < n → p (f j) = true → (f q).er ≤ (f j).er) ∧ ∀ j, j < q → p (f j) = true → (f q).er < (f j).er
theorem picked_any (p : Bk → Bool) (f : Nat → Bk) (n : Nat) : Picked p f n (leastL f (chosenL p f n)) := by
  induction n with
  | zero => exact .inl ⟨rfl, fun j hj => absurd hj (Nat.not_lt_zero j)⟩
  | succ n ih =>
    cases hq : p (f n)
    · rw [chosen_no hq]
      rcases ih with ⟨h1, h2⟩ | ⟨q, h1, h2, h3, h4, h5⟩
      · exact .inl ⟨h1, fun j hj => if e : j = n then e ▸ hq else h2 j (by omega)⟩
      · refine .inr ⟨q, by omega, h2, h3, fun j hj hp => ?_, h5⟩
        by_cases e : j = n
        · subst e; rw [hq] at hp; cases hp
        · exact h4 j (by omega) hp
    · rw [chosen_yes hq, least_snoc]
      rcases ih with ⟨h1, h2⟩ | ⟨q, h1, h2, h3, h4, h5⟩
      · rw [h1, if_pos (by decide)]
        refine .inr ⟨n, by omega, rfl, hq, fun j hj hp => ?_, fun j hj hp => ?_⟩
        · by_cases e : j = n
          · subst e; exact Int.le_refl _
          · rw [h2 j (by omega)] at hp; cases hp
        · rw [h2 j hj] at hp; cases hp
      · rw [h2, if_neg (by omega), Int.toNat_natCast, Int.toNat_natCast]
        by_cases hlt : (f n).er < (f q).er
        · rw [if_pos hlt]
          refine .inr ⟨n, by omega, rfl, hq, fun j hj hp => ?_, fun j hj hp => ?_⟩
          · by_cases e : j = n
            · subst e; exact Int.le_refl _
            · have := h4 j (by omega) hp; omega
          · have := h4 j hj hp; omega
        · rw [if_neg hlt]
          refine .inr ⟨q, by omega, rfl, h3, fun j hj hp => ?_, h5⟩
          by_cases e : j = n
          · subst e; omega
          · exact h4 j (by omega) hp
set_option maxRecDepth 100000 in
set_option maxHeartbeats 1600000 in
theorem pick_any (a : Option Addr) (n c B : Nat) (f : Nat → Bk) (w : World) (h : Blks w B a n f) (hB : B ≤ w.heap.size) (hn : n ≤ 8796093022208) :
    Calls Try.prog 24 #[.slice a n c] w fun e w' => e = .returned (.int .i64 (leastL f (chosenL Bk.spare f n))) ∧ Upd noBlock w w' := by
  have HC := Lib.hid (chosen_any 35 #[] Bk.spare a n c B f w h hB hn (fun _ _ => rfl) (fun b wz _ => spare_any b wz))
  have HS := Lib.hid h
  have HBB := Lib.hid hB
  have HLE := Lib.hid (chosen_len Bk.spare f n)
  have HNU := Lib.hid (chosen_nums Bk.spare f n)
  clear h hB
  generalize chosenL Bk.spare f n = l at *
  go_enter Try.func24, Try.ntmps24
  go_wp2_with (first
    | (go_at_call 29; refine HC.out.mono ?_; rintro e w1 ⟨v, rfl, o1, u1⟩; obtain ⟨a2, c2, rfl, i1, -, -⟩ := o1.sl; have U1 := Lib.hid u1; have I1 := Lib.hid i1; clear u1 i1 o1)
    | (go_at_call 34; refine (least_any a n c B f a2 l.length c2 l w1 (HS.out.grow U1.out HBB.out) I1.out HNU.out hn (by have := HLE.out; omega)).mono ?_; rintro e w2 ⟨rfl, u2, -⟩; have U2 := Lib.hid u2; clear u2))
  go_ret
  exact ⟨rfl, U1.out.trans U2.out⟩
def spk (i : Nat) : Bk := if i = 0 then ⟨3, 0, false, false⟩ else if i = 1 then ⟨1, 0, true, false⟩ else ⟨2, 0, false, false⟩
set_option maxRecDepth 100000 in
set_option maxHeartbeats 1600000 in
theorem speaks8_any (w : World) : Calls Try.prog 20 #[] w fun e w' => e = .returned (.bool true) ∧ Upd noBlock w w' := by
  have hl : leastL spk (chosenL Bk.spare spk 3) = 2 := by decide
  go_enter Try.func20, Try.ntmps20
  go_wp2_with fail
  refine (pick_any (some ⟨w.heap.size, 0, none⟩) 3 3 (w.heap.size + 1) spk _ (fun _ => ⟨w.heap.size, 0, rfl, by omega, fun i hi => ?_⟩) (by simp) (by omega)).mono ?_
  · have e : ∀ j, (w.alloc (.cells #[.int .i64 3, .int .i64 0, .bool false, .bool false, .int .i64 1, .int .i64 0, .bool true, .bool false, .int .i64 2, .int .i64 0, .bool false, .bool false] 55)).cell? ⟨w.heap.size, j, none⟩ = _ := fun j => cell_of (heap_alloc_new w _) j
    rw [e, e, e, e]
    match i, hi with
    | 0, _ => exact ⟨rfl, rfl, rfl, rfl⟩
    | 1, _ => exact ⟨rfl, rfl, rfl, rfl⟩
    | 2, _ => exact ⟨rfl, rfl, rfl, rfl⟩
  · rw [hl]
    rintro e w2 ⟨rfl, u2⟩
    have U2 := Lib.hid u2
    clear u2
    go_wp2_with fail
    go_ret
    exact ⟨rfl, ((Upd.refl _ _).alloc _).trans U2.out⟩
end Go.Proofs.Ytkjajmhanhbkdaa
