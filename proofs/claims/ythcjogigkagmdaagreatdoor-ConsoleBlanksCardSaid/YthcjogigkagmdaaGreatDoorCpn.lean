/- ConsoleBlanks, whole. -/
import Derived.Test.YthcjogigkagmdaaGreatDoorCpm
import Derived.Test.YthcjogigkagmdaaGreatDoorCoz
namespace Go.Proofs.YthcjogigkagmdaaGreatDoor
open Go.RowKit
set_option linter.unusedVariables false

set_option maxRecDepth 100000 in
set_option maxHeartbeats 1600000 in
theorem blanks_bad (x : ByteArray) (n : Int) (w : World) (hg : Gl w) (hx : x.size ≤ 140737488351232) (hC : (Con.parseL x.data.toList).2.1 ≠ 0) : Calls Tryz.prog 8 #[.string x, .int .i64 n] w fun e w' => e = .returned (.bool true) ∧ Upd noBlock w w' := by
  have HSP := Lib.hid (speaks_any w hg)
  have HPX : Hid (∀ W, Upd noBlock w W → _) := fun W h => parse_s x W (hg.grow h) hx
  obtain ⟨C, hCC⟩ : ∃ C, (Con.parseL x.data.toList).2.1 = C := ⟨_, rfl⟩
  obtain ⟨N, hN⟩ : ∃ N, (Con.parseL x.data.toList).2.2 = N := ⟨_, rfl⟩
  obtain ⟨s, hs⟩ : ∃ s, (Con.parseL x.data.toList).1 = s := ⟨_, rfl⟩
  rw [hCC, hN, hs] at HPX
  rw [hCC] at hC
  have HSH : Hid (∀ W g1 g2 g3 g4 g5 a m c, Upd noBlock w W → ShIn W s g1 g2 g3 g4 g5 a m c → Calls Tryz.prog 14 #[.agg #[.int .i64 g1, .int .i64 g2, .int .i64 g3, .int .i64 g4, .int .i64 g5, .slice a m c]] W fun e w' => e = .returned (.string ⟨(Con.showL s).toArray⟩) ∧ Upd noBlock W w') := fun W g1 g2 g3 g4 g5 a m c h h2 => show_any s g1 g2 g3 g4 g5 a m c W (hg.grow h) h2
  obtain ⟨T, hT⟩ : ∃ T : ByteArray, (⟨(Con.showL s).toArray⟩ : ByteArray) = T := ⟨_, rfl⟩
  rw [hT] at HSH
  clear hCC hN hs hT hg
  go_enter Tryz.func8, Tryz.ntmps8
  go_wp2_with (go_at_call 9; (with_reducible refine HSP.out.mono ?_); rintro e w1 ⟨rfl, hu⟩; have U1 := Lib.hid hu; clear hu)
  refine (HPX.out _ U1.out).mono ?_
  rintro e w2 ⟨g1, g2, g3, g4, g5, a, m, c, rfl, hs, hu⟩
  have U2 : Hid (∀ o1 o2, Upd noBlock w ((w2.alloc o1).alloc o2)) := fun o1 o2 => ((U1.out.trans hu).alloc o1).alloc o2
  have HS2 : Hid (∀ o1 o2, ShIn ((w2.alloc o1).alloc o2) s g1 g2 g3 g4 g5 a m c) := fun o1 o2 => hs.grow (((Upd.refl _ _).alloc o1).alloc o2)
  have HN1 := Lib.hid (two_new w2 (.cells #[.int .i64 g1, .int .i64 g2, .int .i64 g3, .int .i64 g4, .int .i64 g5, .slice a m c] 27) (.cells (fauC C (N : Int)) 30)).2
  clear hs hu
  go_wp2_with (go_at_call 14; (with_reducible refine (HSH.out _ _ _ _ _ _ _ _ _ (U2.out _ _) (HS2.out _ _)).mono ?_); rintro e w3 ⟨rfl, hu⟩; have U3 := Lib.hid ((U2.out _ _).trans hu); obtain ⟨⟨f0, f1⟩, _⟩ := fau_cells (hu.cells HN1.out (fun h => h)); clear hu)
  all_goals
    go_ret
    exact ⟨rfl, U3.out⟩
set_option maxRecDepth 100000 in
set_option maxHeartbeats 1600000 in
theorem blanks_long (x : ByteArray) (n : Int) (w : World) (hg : Gl w) (hx : x.size ≤ 140737488351232) (hC : (Con.parseL x.data.toList).2.1 = 0) (hlen : 9000 < (Con.showL (Con.parseL x.data.toList).1).length) : Calls Tryz.prog 8 #[.string x, .int .i64 n] w fun e w' => e = .returned (.bool true) ∧ Upd noBlock w w' := by
  have HSP := Lib.hid (speaks_any w hg)
  have HPX : Hid (∀ W, Upd noBlock w W → _) := fun W h => parse_s x W (hg.grow h) hx
  rw [hC, parse_ok0 _ hC] at HPX
  have hlong := Con.show_long x.data.toList
  obtain ⟨s, hs⟩ : ∃ s, (Con.parseL x.data.toList).1 = s := ⟨_, rfl⟩
  rw [hs] at HPX hlen hlong
  have HSH : Hid (∀ W g1 g2 g3 g4 g5 a m c, Upd noBlock w W → ShIn W s g1 g2 g3 g4 g5 a m c → Calls Tryz.prog 14 #[.agg #[.int .i64 g1, .int .i64 g2, .int .i64 g3, .int .i64 g4, .int .i64 g5, .slice a m c]] W fun e w' => e = .returned (.string ⟨(Con.showL s).toArray⟩) ∧ Upd noBlock W w') := fun W g1 g2 g3 g4 g5 a m c h h2 => show_any s g1 g2 g3 g4 g5 a m c W (hg.grow h) h2
  obtain ⟨T, hT⟩ : ∃ T : ByteArray, (⟨(Con.showL s).toArray⟩ : ByteArray) = T := ⟨_, rfl⟩
  rw [hT] at HSH
  have hTz : T.size = (Con.showL s).length := by rw [← hT]; rfl
  have hTs : IntKind.i64.wrap (T.size : Int) = (T.size : Int) := IntWalk.i64_in _ (by omega)
  have dT : decide ((9000 : Int) < (T.size : Int)) = true := decide_eq_true (by omega)
  clear hC hs hT hg hlen hlong hTz
  go_enter Tryz.func8, Tryz.ntmps8
  go_wp2_with (go_at_call 9; (with_reducible refine HSP.out.mono ?_); rintro e w1 ⟨rfl, hu⟩; have U1 := Lib.hid hu; clear hu)
  refine (HPX.out _ U1.out).mono ?_
  rintro e w2 ⟨g1, g2, g3, g4, g5, a, m, c, rfl, hs, hu⟩
  have U2 : Hid (∀ o1 o2, Upd noBlock w ((w2.alloc o1).alloc o2)) := fun o1 o2 => ((U1.out.trans hu).alloc o1).alloc o2
  have HS2 : Hid (∀ o1 o2, ShIn ((w2.alloc o1).alloc o2) s g1 g2 g3 g4 g5 a m c) := fun o1 o2 => hs.grow (((Upd.refl _ _).alloc o1).alloc o2)
  have HN1 := Lib.hid (two_new w2 (.cells #[.int .i64 g1, .int .i64 g2, .int .i64 g3, .int .i64 g4, .int .i64 g5, .slice a m c] 27) (.cells (fauC 0 0) 30)).2
  clear hs hu
  go_wp2_with (go_at_call 14; (with_reducible refine (HSH.out _ _ _ _ _ _ _ _ _ (U2.out _ _) (HS2.out _ _)).mono ?_); rintro e w3 ⟨rfl, hu⟩; have U3 := Lib.hid ((U2.out _ _).trans hu); obtain ⟨⟨f0, f1⟩, _⟩ := fau_cells (hu.cells HN1.out (fun h => h)); clear hu)
  go_ret
  exact ⟨rfl, U3.out⟩
theorem consoleBlanks_walk (x : ByteArray) (n : Int) (w : World) (hx : x.size ≤ 140737488351232) (hn : (Lit.int .i64 n).wf = true) (hg : Gl w) :
    Calls Tryz.prog 8 #[.string x, .int .i64 n] w fun e w' => e = .returned (.bool true) ∧ Below w.heap.size w w' := by
  have key : Calls Tryz.prog 8 #[.string x, .int .i64 n] w fun e w' => e = .returned (.bool true) ∧ Upd noBlock w w' := by
    by_cases hC : (Con.parseL x.data.toList).2.1 = 0
    · by_cases hl : (Con.showL (Con.parseL x.data.toList).1).length ≤ 9000
      · exact blanks_loop x n w hg hx hC hl
      · exact blanks_long x n w hg hx hC (by omega)
    · exact blanks_bad x n w hg hx hC
  exact key.mono fun _ _ ⟨h, hu⟩ => ⟨h, hu.below (fun _ _ h => h)⟩
end Go.Proofs.YthcjogigkagmdaaGreatDoor
