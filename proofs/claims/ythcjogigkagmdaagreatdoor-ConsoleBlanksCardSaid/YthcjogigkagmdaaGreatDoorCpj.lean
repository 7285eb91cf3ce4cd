/- ConsoleBack, where the text is a script. -/
import Derived.Test.YthcjogigkagmdaaGreatDoorCpi
namespace Go.Proofs.YthcjogigkagmdaaGreatDoor
open Go.RowKit
set_option linter.unusedVariables false

set_option maxRecDepth 100000 in
set_option maxHeartbeats 1600000 in
theorem back_good (x : ByteArray) (w : World) (hg : Gl w) (hx : x.size ≤ 140737488351232) (hC : (Con.parseL x.data.toList).2.1 = 0) : Calls Tryz.prog 5 #[.string x] w fun e w' => e = .returned (.bool true) ∧ Upd noBlock w w' := by
  have HSP := Lib.hid (speaks_any w hg)
  have HG := Lib.hid (fun W (h : Upd noBlock w W) => hg.grow h)
  have HPX : Hid (∀ W, Upd noBlock w W → _) := fun W h => parse_s x W (hg.grow h) hx
  rw [hC, parse_ok0 _ hC] at HPX
  have hgood := Con.parseL_good x.data.toList
  obtain ⟨s, hs⟩ : ∃ s, (Con.parseL x.data.toList).1 = s := ⟨_, rfl⟩
  rw [hs] at HPX hgood
  have HSH : Hid (∀ W g1 g2 g3 g4 g5 a m c, Upd noBlock w W → ShIn W s g1 g2 g3 g4 g5 a m c → Calls Tryz.prog 14 #[.agg #[.int .i64 g1, .int .i64 g2, .int .i64 g3, .int .i64 g4, .int .i64 g5, .slice a m c]] W fun e w' => e = .returned (.string ⟨(Con.showL s).toArray⟩) ∧ Upd noBlock W w') := fun W g1 g2 g3 g4 g5 a m c h h2 => show_any s g1 g2 g3 g4 g5 a m c W (hg.grow h) h2
  obtain ⟨T, hT⟩ : ∃ T : ByteArray, (⟨(Con.showL s).toArray⟩ : ByteArray) = T := ⟨_, rfl⟩
  rw [hT] at HSH
  have hTl : T.data.toList = Con.showL s ∧ T.size = (Con.showL s).length := by rw [← hT]; exact ⟨rfl, rfl⟩
  have hTz : T.size ≤ 140737488355328 := by rw [hTl.2, ← hs]; exact Con.show_long _
  have hTs : IntKind.i64.wrap (T.size : Int) = (T.size : Int) := IntWalk.i64_in _ (by omega)
  clear hC hs hT hg
  by_cases hbig : 65536 < T.size
  · have dT : decide ((65536 : Int) < (T.size : Int)) = true := decide_eq_true (by omega)
    clear hbig hTz hgood hTl
    go_enter Tryz.func5, Tryz.ntmps5
    go_wp2_with (go_at_call 9; (with_reducible refine HSP.out.mono ?_); rintro e w1 ⟨rfl, hu⟩; have U1 := Lib.hid hu; clear hu)
    refine (HPX.out _ U1.out).mono ?_
    rintro e w2 ⟨g1, g2, g3, g4, g5, a, m, c, rfl, hs, hu⟩
    have U2 : Hid (∀ o1 o2, Upd noBlock w ((w2.alloc o1).alloc o2)) := fun o1 o2 => ((U1.out.trans hu).alloc o1).alloc o2
    have HS2 : Hid (∀ o1 o2, ShIn ((w2.alloc o1).alloc o2) s g1 g2 g3 g4 g5 a m c) := fun o1 o2 => hs.grow (((Upd.refl _ _).alloc o1).alloc o2)
    clear hs hu
    go_wp2_with (go_at_call 14; (with_reducible refine (HSH.out _ _ _ _ _ _ _ _ _ (U2.out _ _) (HS2.out _ _)).mono ?_); rintro e w3 ⟨rfl, hu⟩; have U3 := Lib.hid ((U2.out _ _).trans hu); clear hu)
    go_ret
    exact ⟨rfl, U3.out⟩
  · have dT : decide ((65536 : Int) < (T.size : Int)) = false := decide_eq_false (by omega)
    have HPT : Hid (∀ W, Upd noBlock w W → _) := fun W h => parse_s T W (HG.out W h) (by omega)
    rw [hTl.1, Con.parse_show hgood (by rw [← hTl.2]; omega)] at HPT
    clear hbig hTz hgood hTl
    go_enter Tryz.func5, Tryz.ntmps5
    go_wp2_with (go_at_call 9; (with_reducible refine HSP.out.mono ?_); rintro e w1 ⟨rfl, hu⟩; have U1 := Lib.hid hu; clear hu)
    refine (HPX.out _ U1.out).mono ?_
    rintro e w2 ⟨g1, g2, g3, g4, g5, a, m, c, rfl, hs, hu⟩
    have U2 : Hid (∀ o1 o2, Upd noBlock w ((w2.alloc o1).alloc o2)) := fun o1 o2 => ((U1.out.trans hu).alloc o1).alloc o2
    have HS2 : Hid (∀ o1 o2, ShIn ((w2.alloc o1).alloc o2) s g1 g2 g3 g4 g5 a m c) := fun o1 o2 => hs.grow (((Upd.refl _ _).alloc o1).alloc o2)
    have hn1 := Lib.hid hs.nums
    have hm1 := Lib.hid hs.len
    obtain ⟨n1, n2⟩ := two_new w2 (.cells #[.int .i64 g1, .int .i64 g2, .int .i64 g3, .int .i64 g4, .int .i64 g5, .slice a m c] 27) (.cells #[.int .i64 0, .int .i64 0] 30)
    have HN1 := Lib.hid n1
    clear hs hu n1 n2
    go_wp2_with (go_at_call 14; (with_reducible refine (HSH.out _ _ _ _ _ _ _ _ _ (U2.out _ _) (HS2.out _ _)).mono ?_); rintro e w3 ⟨rfl, hu⟩; have U3 := Lib.hid ((U2.out _ _).trans hu); have HN3 := Lib.hid (hu.cells HN1.out (fun h => h)); clear hu)
    refine (HPT.out _ U3.out).mono ?_
    rintro e w4 ⟨h1, h2, h3, h4, h5, b, m2, c2, rfl, hs, hu⟩
    have hn2 := hs.nums
    have hm2 := hs.len
    rw [hn1.out] at hn2
    simp only [List.cons.injEq, and_true] at hn2
    obtain ⟨rfl, rfl, rfl, rfl, rfl⟩ := hn2
    obtain rfl : m = m2 := by rw [hm1.out, hm2]
    have HN4 := Lib.hid (hu.cells HN3.out (fun h => h))
    have U4 : Hid (∀ o1 o2, Upd noBlock w ((w4.alloc o1).alloc o2)) := fun o1 o2 => ((U3.out.trans hu).alloc o1).alloc o2
    have HS4 : Hid (∀ o1 o2, ShIn ((w4.alloc o1).alloc o2) s g1 g2 g3 g4 g5 b m c2) := fun o1 o2 => hs.grow (((Upd.refl _ _).alloc o1).alloc o2)
    obtain ⟨k1, k2⟩ := two_new w4 (.cells #[.int .i64 g1, .int .i64 g2, .int .i64 g3, .int .i64 g4, .int .i64 g5, .slice b m c2] 27) (.cells #[.int .i64 0, .int .i64 0] 30)
    have HK1 := Lib.hid k1
    clear hs hu k1 k2 hn1 hm1 hm2
    go_wp2_with (go_at_call 14; (with_reducible refine (HSH.out _ _ _ _ _ _ _ _ _ (U4.out _ _) (HS4.out _ _)).mono ?_); rintro e w5 ⟨rfl, hu⟩; have U5 := Lib.hid ((U4.out _ _).trans hu); obtain ⟨⟨s0, s1, s2, s3, s4, s5⟩, _⟩ := scr_cells (hu.cells HK1.out (fun h => h)); obtain ⟨⟨r0, r1, r2, r3, r4, r5⟩, _⟩ := scr_cells (hu.cells (block_alloc (block_alloc HN4.out _) _) (fun h => h)); clear hu)
    go_ret
    exact ⟨rfl, U5.out⟩
end Go.Proofs.YthcjogigkagmdaaGreatDoor
