/- ConsoleBack, walked. -/
import Derived.Test.YthcjogigkagmdaaGreatDoorCpg
import Derived.Test.YthcjogigkagmdaaGreatDoorCph
namespace Go.Proofs.YthcjogigkagmdaaGreatDoor
open Go.RowKit
set_option linter.unusedVariables false

theorem ShIn.grow {w w' : World} {s : Con.Scr} {g1 g2 g3 g4 g5 : Int} {a : Option Addr} {m c : Nat} (h : ShIn w s g1 g2 g3 g4 g5 a m c) (hu : Upd noBlock w w') : ShIn w' s g1 g2 g3 g4 g5 a m c :=
  ⟨h.nums, h.len, h.few, h.cap, fun h0 => by
    obtain ⟨g, e, hg, hc⟩ := h.cells h0
    exact ⟨g, e, Nat.lt_of_lt_of_le hg hu.size, fun i u hi => upd_cell hu (hc i u hi)⟩, h.numsB, h.actsB, h.long⟩
theorem own_cap {w : World} {B : Nat} {e : TypeId} {n m k c : Nat} {a : Option Addr} {xs : List Value} (h : w.ownsRow B e n (.slice a k c) m xs) : k ≤ c := by
  rcases h.2 with ⟨h1, _⟩ | ⟨g, cap, cur, h1, _, _, h3, _⟩
  · cases h1; exact Nat.le_refl _
  · cases h1; exact h3
theorem nine_bnd {n : Int} (h : Con.Nine n) : -9223372036854775808 ≤ n ∧ n ≤ 9223372036854775807 := by unfold Con.Nine at h; omega
/-- Parse, whole -/
theorem parse_s (x : ByteArray) (w : World) (hg : Gl w) (hx : x.size ≤ 140737488351232) : Calls Tryz.prog 10 #[.string x] w fun e w' =>
    ∃ g1 g2 g3 g4 g5 a m c, e = .returned (.tuple #[.agg #[.int .i64 g1, .int .i64 g2, .int .i64 g3, .int .i64 g4, .int .i64 g5, .slice a m c], .agg #[.int .i64 (Con.parseL x.data.toList).2.1, .int .i64 ((Con.parseL x.data.toList).2.2 : Int)]]) ∧ ShIn w' (Con.parseL x.data.toList).1 g1 g2 g3 g4 g5 a m c ∧ Upd noBlock w w' := by
  refine (parse_any x w hg hx).mono ?_
  rintro e w' ⟨g1, g2, g3, g4, g5, a, m, c, rfl, hs, hm, hu⟩
  obtain ⟨k1, k2⟩ := Con.parseL_small x.data.toList
  have kg := Con.parseL_good x.data.toList
  have hl := hs.len
  refine ⟨g1, g2, g3, g4, g5, a, m, c, rfl, ⟨hs.nums, hs.len, by omega, own_cap hs.acts, fun h0 => ?_, fun n hn => nine_bnd (kg.nine n hn), fun y hy => ?_, Con.show_long _⟩, hu⟩
  · obtain ⟨g, c', hv, _, hgw, hc⟩ := own_cells hs.acts h0
    cases hv
    exact ⟨g, rfl, hgw, hc⟩
  · have := k1 y hy
    exact ⟨by have := this.p; omega, by have := this.d; omega, by have := this.t; omega, nine_bnd this.o, nine_bnd this.s⟩
theorem parse_bad (t : List UInt8) (h : (Con.parseL t).2.1 ≠ 0) : (Con.parseL t).1 = Con.zS := by
  unfold Con.parseL at h ⊢
  split
  · rfl
  · next h0 => rw [if_neg h0] at h; exact run_fail _ _ _ h
theorem parse_ok0 (t : List UInt8) (h : (Con.parseL t).2.1 = 0) : (Con.parseL t).2.2 = 0 := by
  unfold Con.parseL at h ⊢
  split
  · rfl
  · next h0 => rw [if_neg h0] at h; exact run_ok _ _ _ h
set_option maxRecDepth 100000 in
set_option maxHeartbeats 1600000 in
theorem back_bad (x : ByteArray) (w : World) (hg : Gl w) (hx : x.size ≤ 140737488351232) (hC : (Con.parseL x.data.toList).2.1 ≠ 0) : Calls Tryz.prog 5 #[.string x] w fun e w' => e = .returned (.bool true) ∧ Upd noBlock w w' := by
  have HSP := Lib.hid (speaks_any w hg)
  have HPX : Hid (∀ W, Upd noBlock w W → _) := fun W h => parse_s x W (hg.grow h) hx
  rw [parse_bad _ hC] at HPX
  obtain ⟨C, hCC⟩ : ∃ C, (Con.parseL x.data.toList).2.1 = C := ⟨_, rfl⟩
  obtain ⟨N, hN⟩ : ∃ N, (Con.parseL x.data.toList).2.2 = N := ⟨_, rfl⟩
  rw [hCC, hN] at HPX
  rw [hCC] at hC
  clear hCC hN hg
  go_enter Tryz.func5, Tryz.ntmps5
  go_wp2_with (go_at_call 9; (with_reducible refine HSP.out.mono ?_); rintro e w1 ⟨rfl, hu⟩; have U1 := Lib.hid hu; clear hu)
  refine (HPX.out _ U1.out).mono ?_
  rintro e w2 ⟨g1, g2, g3, g4, g5, a, m, c, rfl, hs, hu⟩
  have U2 : Hid (∀ o1 o2, Upd noBlock w ((w2.alloc o1).alloc o2)) := fun o1 o2 => ((U1.out.trans hu).alloc o1).alloc o2
  have hn := hs.nums
  simp only [Con.zS, List.cons.injEq, and_true] at hn
  obtain ⟨rfl, rfl, rfl, rfl, rfl⟩ := hn
  have hl : m = 0 := hs.len
  subst hl
  clear hs hu
  go_wp2
  all_goals
    go_ret
    exact ⟨rfl, U2.out _ _⟩
end Go.Proofs.YthcjogigkagmdaaGreatDoor
