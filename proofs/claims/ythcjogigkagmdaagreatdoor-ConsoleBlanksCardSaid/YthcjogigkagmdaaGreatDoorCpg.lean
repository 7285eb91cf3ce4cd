/- Show, walked. -/
import Derived.Test.YthcjogigkagmdaaGreatDoorCpf
namespace Go.Proofs.YthcjogigkagmdaaGreatDoor
open Go.RowKit
set_option linter.unusedVariables false

theorem acts_at : ∀ (l : List Con.A6) (j : Nat) (x : Con.A6), l[j]? = some x → (actsC l)[j * 6]? = some (.int .i64 x.kind) ∧ (actsC l)[j * 6 + 1]? = some (.string x.path) ∧ (actsC l)[j * 6 + 2]? = some (.string x.dest) ∧ (actsC l)[j * 6 + 3]? = some (.string x.data) ∧ (actsC l)[j * 6 + 4]? = some (.int .i64 x.off) ∧ (actsC l)[j * 6 + 5]? = some (.int .i64 x.size)
  | [], j, x, h => by cases h
  | a :: l, 0, x, h => by cases h; exact ⟨rfl, rfl, rfl, rfl, rfl, rfl⟩
  | a :: l, j + 1, x, h => by
    have ih := acts_at l j x h
    have e : ∀ r, (actsC (a :: l))[(j + 1) * 6 + r]? = (actsC l)[j * 6 + r]? := fun r => by
      show (actsC (a :: l))[(j + 1) * 6 + r]? = _
      unfold actsC
      rw [List.flatMap_cons, List.getElem?_append_right (by simp [actC]; omega)]
      congr 1
      simp [actC]; omega
    exact ⟨(e 0).trans ih.1, (e 1).trans ih.2.1, (e 2).trans ih.2.2.1, (e 3).trans ih.2.2.2.1, (e 4).trans ih.2.2.2.2.1, (e 5).trans ih.2.2.2.2.2⟩
/-- a script that Show may be given -/
structure ShIn (w : World) (s : Con.Scr) (g1 g2 g3 g4 g5 : Int) (a : Option Addr) (m c : Nat) : Prop where
  nums : s.nums = [g1, g2, g3, g4, g5]
  len : m = s.acts.length
  few : m ≤ 1099511627776
  cap : m ≤ c
  cells : 0 < m → ∃ g, a = some ⟨g, 0, none⟩ ∧ g < w.heap.size ∧ ∀ i u, (actsC s.acts)[i]? = some u → w.cell? ⟨g, i, none⟩ = some u
  numsB : ∀ n ∈ s.nums, -9223372036854775808 ≤ n ∧ n ≤ 9223372036854775807
  actsB : ∀ x ∈ s.acts, BndA x
  long : (Con.showL s).length ≤ 140737488355328
/-- what holds ahead of each round -/
structure ShJ (w wr : World) (s : Con.Scr) (j : Nat) : Prop where
  bld : BldC wr (w.heap.size + 1) (w.heap.size + 1) (Con.showG s.nums ++ (s.acts.take j).flatMap Con.showA)
  up : Upd noBlock w wr
  big : w.heap.size + 1 ≤ wr.heap.size
theorem show_pre (s : Con.Scr) (j : Nat) : (Con.showG s.nums ++ (s.acts.take j).flatMap Con.showA).length ≤ (Con.showL s).length := by
  unfold Con.showL
  rw [List.length_append, List.length_append]
  have : s.acts.flatMap Con.showA = (s.acts.take j).flatMap Con.showA ++ (s.acts.drop j).flatMap Con.showA := by rw [← List.flatMap_append, List.take_append_drop]
  rw [this, List.length_append]; omega
set_option maxRecDepth 100000 in
set_option maxHeartbeats 1600000 in
theorem show_any (s : Con.Scr) (g1 g2 g3 g4 g5 : Int) (a : Option Addr) (m c : Nat) (w : World) (hg : Gl w) (hs : ShIn w s g1 g2 g3 g4 g5 a m c) :
    Calls Tryz.prog 14 #[scrV g1 g2 g3 g4 g5 a m c] w fun e w' => e = .returned (.string ⟨(Con.showL s).toArray⟩) ∧ Upd noBlock w w' := by
  have HS := Lib.hid hs
  have hgl : (Con.showG s.nums).length ≤ 140737488355328 := by
    have := hs.long
    unfold Con.showL at this
    rw [List.length_append] at this
    omega
  have HGL := Lib.hid hgl
  obtain ⟨wb, hwb⟩ : ∃ wb, w.alloc (.cells #[.int .i64 g1, .int .i64 g2, .int .i64 g3, .int .i64 g4, .int .i64 g5, .slice a m c] 27) = wb := ⟨_, rfl⟩
  have hbs : wb.heap.size = w.heap.size + 1 := by rw [← hwb]; simp
  have hq : wb.heap[w.heap.size]? = some (.cells (scrC g1 g2 g3 g4 g5 (.slice a m c)) 27 (0, 0)) := by rw [← hwb]; exact heap_alloc_new w _
  have HQ := Lib.hid hq
  have UB : Hid (Upd noBlock w wb) := by show Upd _ _ _; rw [← hwb]; exact (Upd.refl _ _).alloc _
  have HSG : Hid (∀ W, Upd noBlock w W → Calls Tryz.prog 24 #[.agg #[.int .i64 g1, .int .i64 g2, .int .i64 g3, .int .i64 g4, .int .i64 g5]] W fun e w' => e = .returned (.string ⟨(Con.showG s.nums).toArray⟩) ∧ Upd noBlock W w') := fun W h => by
    rw [hs.nums]
    exact showGeometry_any g1 g2 g3 g4 g5 W (hg.grow h) (by rw [← hs.nums]; exact hs.numsB) (by rw [← hs.nums]; exact hgl)
  obtain ⟨G, hG⟩ : ∃ G : ByteArray, (⟨(Con.showG s.nums).toArray⟩ : ByteArray) = G := ⟨_, rfl⟩
  rw [hG] at HSG
  have HGD : Hid (G.data.toList = Con.showG s.nums ∧ G.size = (Con.showG s.nums).length) := by rw [← hG]; exact ⟨rfl, rfl⟩
  have HG := Lib.hid (fun W (h : Upd noBlock w W) => hg.grow h)
  have AL : ∀ o i v, (scrC g1 g2 g3 g4 g5 (.slice a m c))[i]? = some v → (wb.alloc o).cell? ⟨w.heap.size, i, none⟩ = some v := fun o i v h => by rw [cell_of (block_alloc hq o) i]; exact h
  have q0 : ∀ o, (wb.alloc o).cell? ⟨w.heap.size, 0, none⟩ = some (.int .i64 g1) := fun o => AL o 0 _ rfl
  have q1 : ∀ o, (wb.alloc o).cell? ⟨w.heap.size, 1, none⟩ = some (.int .i64 g2) := fun o => AL o 1 _ rfl
  have q2 : ∀ o, (wb.alloc o).cell? ⟨w.heap.size, 2, none⟩ = some (.int .i64 g3) := fun o => AL o 2 _ rfl
  have q3 : ∀ o, (wb.alloc o).cell? ⟨w.heap.size, 3, none⟩ = some (.int .i64 g4) := fun o => AL o 3 _ rfl
  have q4 : ∀ o, (wb.alloc o).cell? ⟨w.heap.size, 4, none⟩ = some (.int .i64 g5) := fun o => AL o 4 _ rfl
  have HB0 : Hid (BldC (wb.alloc (.cells #[.pointer none, .slice none 0 0] 83)) (w.heap.size + 1) (w.heap.size + 1) []) := by
    have := BldC.new wb
    rw [hbs] at this
    exact this
  have hmw : IntKind.i64.wrap (m : Int) = (m : Int) := IntWalk.i64_in _ (by have := hs.few; omega)
  clear AL hs hgl hq hG hg
  unfold scrV
  go_enter Tryz.func14, Tryz.ntmps14
  go_wp2_with (go_at_call 24; (with_reducible refine (HSG.out _ (UB.out.alloc _)).mono ?_); rintro e w1 ⟨rfl, hu⟩; have HB1 := Lib.hid (HB0.out.grow hu); have U1 := Lib.hid ((UB.out.alloc _).trans hu); have hq5 : w1.cell? ⟨w.heap.size, 5, none⟩ = some (.slice a m c) := cell_of (hu.cells (block_alloc HQ.out _) (fun h => h)) 5; have HQ1 := Lib.hid (hu.cells (block_alloc HQ.out _) (fun h => h)); have HZ1 : Hid (w.heap.size + 1 ≤ w1.heap.size) := (by have h9 := hu.size; rw [World.size_alloc, hbs] at h9; show _ ≤ _; omega); clear hu)
  have HW1 := Lib.hid (cwrite_any (w.heap.size + 1) (w.heap.size + 1) [] G w1 HB1.out (by have := HGD.out.2; have := HGL.out; simp; omega) HZ1.out)
  go_wp2_with (go_at_call 23; (with_reducible refine HW1.out.mono ?_); rintro e w2 ⟨rfl, hb, hw⟩; have hq6 : w2.cell? ⟨w.heap.size, 5, none⟩ = some (.slice a m c) := (by rw [World.cell?_of_block (hw.block w.heap.size (by omega))]; exact hq5); have HK : Hid (ShJ w w2 s 0) := ⟨(by have h9 := hb; rw [List.nil_append, HGD.out.1] at h9; simpa using h9), up_below U1.out hw (by omega), Nat.le_trans HZ1.out hw.size⟩; clear hb hw)
  clear HW1 HB1 HB0 HSG q0 q1 q2 q3 q4
  go_loopw [13] (fun i wr => ∃ j : Nat, j ≤ m ∧ i = .int .i64 (j : Int) ∧ Hid (ShJ w wr s j)) (fun i _ => m - (intOf i).toNat)
  case atStart => exact ⟨0, by omega, rfl, HK⟩
  case round =>
    clear HK
    obtain ⟨j, hj, rfl, HJ⟩ := hrel
    have hS := HS.out
    have hfew := hS.few
    have hcap := hS.cap
    by_cases hlt : j < m
    · obtain ⟨x, hx⟩ : ∃ x, s.acts[j]? = some x := ⟨_, List.getElem?_eq_getElem (by rw [← hS.len]; exact hlt)⟩
      have hxm : x ∈ s.acts := List.mem_of_getElem? hx
      obtain ⟨g, hga, hgw, hcl⟩ := hS.cells (by omega)
      subst hga
      obtain ⟨z0, z1, z2, z3, z4, z5⟩ := acts_at s.acts j x hx
      have up := HJ.out.up
      have y0 := upd_cell up (hcl _ _ z0)
      have y1 := upd_cell up (hcl _ _ z1)
      have y2 := upd_cell up (hcl _ _ z2)
      have y3 := upd_cell up (hcl _ _ z3)
      have y4 := upd_cell up (hcl _ _ z4)
      have y5 := upd_cell up (hcl _ _ z5)
      have dj : decide ((j : Int) < (m : Int)) = true := decide_eq_true (by omega)
      have hjm : (j : Int) < (m : Int) := by omega
      have hwj : IntKind.i64.wrap ((j : Int) + 1) = (j : Int) + 1 := IntWalk.i64_in _ (by omega)
      have HI := Lib.hid (isAct_any x.kind)
      have htk : s.acts.take (j + 1) = s.acts.take j ++ [x] := by rw [List.take_add_one, hx]; rfl
      have hpre := show_pre s (j + 1)
      rw [htk, List.flatMap_append, ← List.append_assoc, List.length_append] at hpre
      have hxl : ([x].flatMap Con.showA) = Con.showA x := by simp
      rw [hxl] at hpre
      have HPRE : Hid ((Con.showG s.nums ++ (s.acts.take j).flatMap Con.showA).length + (Con.showA x).length ≤ 140737488355328) := Nat.le_trans hpre hS.long
      have HN : Hid (∀ W, BldC W (w.heap.size + 1) (w.heap.size + 1) ((Con.showG s.nums ++ (s.acts.take j).flatMap Con.showA) ++ Con.showA x) → Upd noBlock w W → w.heap.size + 1 ≤ W.heap.size → ShJ w W s (j + 1)) := fun W h1 h2 h3 => ⟨by
        rw [htk, List.flatMap_append, hxl, ← List.append_assoc]; exact h1, h2, h3⟩
      have UA : Hid (Upd noBlock wr (wr.alloc (.cells #[.int .i64 x.kind, .string x.path, .string x.dest, .string x.data, .int .i64 x.off, .int .i64 x.size] 64))) := (Upd.refl _ _).alloc _
      clear hcl z0 z1 z2 z3 z4 z5 hx htk hpre hxl up
      by_cases hk : 1 ≤ x.kind ∧ x.kind ≤ 22
      · rw [decide_eq_true hk.1, decide_eq_true hk.2] at HI
        have HSA : Hid (∀ W, Upd noBlock w W → Calls Tryz.prog 26 #[.agg #[.int .i64 x.kind, .string x.path, .string x.dest, .string x.data, .int .i64 x.off, .int .i64 x.size]] W fun e w' => e = .returned (.string ⟨(Con.showA x).toArray⟩) ∧ Upd noBlock W w') := fun W h =>
          showAct_any x x.kind.toNat W (HG.out W h) (by omega) (by omega) (by omega) (hS.actsB x hxm) (by have := HPRE.out; omega)
        obtain ⟨A, hA⟩ : ∃ A : ByteArray, (⟨(Con.showA x).toArray⟩ : ByteArray) = A := ⟨_, rfl⟩
        rw [hA] at HSA
        have HAD : Hid (A.data.toList = Con.showA x ∧ A.size = (Con.showA x).length) := by rw [← hA]; exact ⟨rfl, rfl⟩
        have HWR : Hid (∀ W, BldC W (w.heap.size + 1) (w.heap.size + 1) (Con.showG s.nums ++ (s.acts.take j).flatMap Con.showA) → w.heap.size + 1 ≤ W.heap.size → _) := fun W h1 h2 => cwrite_any (w.heap.size + 1) (w.heap.size + 1) _ A W h1 (by have := HAD.out.2; have := HPRE.out; omega) h2
        clear hk hA hS hxm
        go_wp2_with (first
          | (go_at_call 25; (with_reducible refine (HI.out _).mono ?_); rintro e w3 ⟨rfl, rfl⟩)
          | (go_at_call 26; (with_reducible refine (HSA.out _ (HJ.out.up.trans UA.out)).mono ?_); rintro e w3 ⟨rfl, hu⟩; have U3 := Lib.hid (UA.out.trans hu); clear hu)
          | (go_at_call 23; go_loud (refine (HWR.out _ (HJ.out.bld.grow U3.out) (Nat.le_trans HJ.out.big U3.out.size)).mono ?_; rintro e w4 ⟨rfl, hb, hw⟩; have HNX := Lib.hid (HN.out w4 (by rw [← HAD.out.1]; exact hb) (up_below (HJ.out.up.trans U3.out) hw (by omega)) (Nat.le_trans (Nat.le_trans HJ.out.big U3.out.size) hw.size)); clear hb hw)))
        go_roundw
        case rel => exact ⟨j + 1, by omega, by simp, HNX⟩
        case measure => simp only [intOf]; omega
      · have hko : (decide (1 ≤ x.kind) && decide (x.kind ≤ 22)) = false := by
          rw [Bool.and_eq_false_iff, decide_eq_false_iff_not, decide_eq_false_iff_not]; omega
        have HA0 : Hid (Con.showA x = []) := by show _ = _; unfold Con.showA; rw [hko]; rfl
        rw [hko] at HI
        have HNX : Hid (∀ W, Upd noBlock wr W → ShJ w W s (j + 1)) := fun W h => HN.out W (by rw [HA0.out, List.append_nil]; exact HJ.out.bld.grow h) (HJ.out.up.trans h) (Nat.le_trans HJ.out.big h.size)
        have HNY := Lib.hid (HNX.out _ UA.out)
        clear hk hko hS hxm HNX
        go_wp2_with (first
          | (go_at_call 25; (with_reducible refine (HI.out _).mono ?_); rintro e w3 ⟨rfl, rfl⟩))
        go_roundw
        case rel => exact ⟨j + 1, by omega, by simp, HNY⟩
        case measure => simp only [intOf]; omega
    · obtain rfl : j = m := by omega
      have dj : decide ((j : Int) < (j : Int)) = false := decide_eq_false (by omega)
      have HST := Lib.hid (Tryz.Builder_String_any_f (w.heap.size + 1) (w.heap.size + 1) _ wr HJ.out.bld HJ.out.big)
      rw [show s.acts.take j = s.acts from List.take_of_length_le (by rw [← hS.len]; exact Nat.le_refl _), show Con.showG s.nums ++ s.acts.flatMap Con.showA = Con.showL s from rfl] at HST
      have HUP := Lib.hid HJ.out.up
      clear HJ hS hlt
      go_wp2_with (go_at_call 27; (with_reducible refine HST.out.mono ?_); rintro e w3 ⟨rfl, _, hw⟩; have U3 := Lib.hid (up_below HUP.out hw (by omega)); clear hw)
      go_ret
      exact ⟨rfl, U3.out⟩
end Go.Proofs.YthcjogigkagmdaaGreatDoor
