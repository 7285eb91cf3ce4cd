/- geometryOf, number's contract given. -/
import Derived.Test.YthcjogigkagmdaaGreatDoorCoi
namespace Go.Proofs.YthcjogigkagmdaaGreatDoor
open Go.RowKit
set_option linter.unusedVariables false

/-- a geometry's five cells -/
def geoC (x1 x2 x3 x4 x5 : Int) : Array Value := #[.int .i64 x1, .int .i64 x2, .int .i64 x3, .int .i64 x4, .int .i64 x5]
def GeoP (F : List Con.Fd) (w : World) (e : Ending) (w' : World) : Prop :=
  ((∃ x1 x2 x3 x4 x5, Con.geoF F = some [x1, x2, x3, x4, x5] ∧ e = .returned (.tuple #[.agg (geoC x1 x2 x3 x4 x5), .bool true])) ∨ (Con.geoF F = none ∧ e = .returned (.tuple #[.agg (geoC 0 0 0 0 0), .bool false]))) ∧ Upd noBlock w w'
/-- what holds ahead of each round -/
structure GO (w wr : World) (F : List Con.Fd) (j : Nat) (x1 x2 x3 x4 x5 : Int) : Prop where
  geo : wr.heap[w.heap.size + 1]? = some (.cells (geoC x1 x2 x3 x4 x5) 24 (0, 0))
  res : wr.heap[w.heap.size]? = some (.cells (geoC 0 0 0 0 0) 24 (0, 0))
  run : Con.numsF F = (Con.numsF (F.drop j)).map fun l => ([x1, x2, x3, x4, x5].take j) ++ l
  up : Upd noBlock w wr
theorem nums_step {F : List Con.Fd} {j : Nat} {f : Con.Fd} (hf : F[j]? = some f) : Con.numsF (F.drop j) = match Con.numF f with
    | some n => (Con.numsF (F.drop (j + 1))).map fun l => n :: l
    | none => none := by
  obtain ⟨h2, e2⟩ := List.getElem?_eq_some_iff.1 hf
  rw [List.drop_eq_getElem_cons h2, e2, Con.numsF]
  cases Con.numF f <;> rfl
/-- the five places of a geometry -/
def ptr5 (b : Nat) : Value := .agg #[.pointer (some ⟨b, 0, none⟩), .pointer (some ⟨b, 1, none⟩), .pointer (some ⟨b, 2, none⟩), .pointer (some ⟨b, 3, none⟩), .pointer (some ⟨b, 4, none⟩)]
theorem idx_0 (b : Nat) (w : World) : (Instr.index 119 (ptr5 b) (.int .i64 0)).run Tryz.prog w = .ok (.pointer (some ⟨b, 0, none⟩)) w := by kernel_rfl
theorem idx_1 (b : Nat) (w : World) : (Instr.index 119 (ptr5 b) (.int .i64 1)).run Tryz.prog w = .ok (.pointer (some ⟨b, 1, none⟩)) w := by kernel_rfl
theorem idx_2 (b : Nat) (w : World) : (Instr.index 119 (ptr5 b) (.int .i64 2)).run Tryz.prog w = .ok (.pointer (some ⟨b, 2, none⟩)) w := by kernel_rfl
theorem idx_3 (b : Nat) (w : World) : (Instr.index 119 (ptr5 b) (.int .i64 3)).run Tryz.prog w = .ok (.pointer (some ⟨b, 3, none⟩)) w := by kernel_rfl
theorem idx_4 (b : Nat) (w : World) : (Instr.index 119 (ptr5 b) (.int .i64 4)).run Tryz.prog w = .ok (.pointer (some ⟨b, 4, none⟩)) w := by kernel_rfl
theorem geoInfo : (Tryz.prog.info? 24).map (·.size) = some 5 := by kernel_rfl
theorem five_cells {w : World} {b : Nat} {x1 x2 x3 x4 x5 : Int} (h : w.heap[b]? = some (.cells (geoC x1 x2 x3 x4 x5) 24 (0, 0))) :
    (w.cell? ⟨b, 0, none⟩ = some (.int .i64 x1) ∧ w.cell? ⟨b, 1, none⟩ = some (.int .i64 x2) ∧ w.cell? ⟨b, 2, none⟩ = some (.int .i64 x3) ∧ w.cell? ⟨b, 3, none⟩ = some (.int .i64 x4) ∧ w.cell? ⟨b, 4, none⟩ = some (.int .i64 x5)) ∧
    (w.frozen? ⟨b, 0, none⟩ = false ∧ w.frozen? ⟨b, 1, none⟩ = false ∧ w.frozen? ⟨b, 2, none⟩ = false ∧ w.frozen? ⟨b, 3, none⟩ = false ∧ w.frozen? ⟨b, 4, none⟩ = false) :=
  ⟨⟨cell_of h 0, cell_of h 1, cell_of h 2, cell_of h 3, cell_of h 4⟩, free_of h 0, free_of h 1, free_of h 2, free_of h 3, free_of h 4⟩
theorem five_set {w : World} {b : Nat} {y1 y2 y3 y4 y5 : Int} (h : w.heap[b]? = some (.cells (geoC y1 y2 y3 y4 y5) 24 (0, 0))) (x1 x2 x3 x4 x5 : Int) :
    (((((w.setCell ⟨b, 0, none⟩ (.int .i64 x1)).setCell ⟨b, 1, none⟩ (.int .i64 x2)).setCell ⟨b, 2, none⟩ (.int .i64 x3)).setCell ⟨b, 3, none⟩ (.int .i64 x4)).setCell ⟨b, 4, none⟩ (.int .i64 x5)).heap[b]? = some (.cells (geoC x1 x2 x3 x4 x5) 24 (0, 0)) ∧
    Upd (oneBlock b) w (((((w.setCell ⟨b, 0, none⟩ (.int .i64 x1)).setCell ⟨b, 1, none⟩ (.int .i64 x2)).setCell ⟨b, 2, none⟩ (.int .i64 x3)).setCell ⟨b, 3, none⟩ (.int .i64 x4)).setCell ⟨b, 4, none⟩ (.int .i64 x5)) := by
  refine ⟨?_, ?_⟩
  · exact block_set (block_set (block_set (block_set (block_set h _) _) _) _) _
  · exact (((((Upd.refl (oneBlock b) w).setCell (p := ⟨b, 0, none⟩) (.inl rfl) _).setCell (p := ⟨b, 1, none⟩) (.inl rfl) _).setCell (p := ⟨b, 2, none⟩) (.inl rfl) _).setCell (p := ⟨b, 3, none⟩) (.inl rfl) _).setCell (p := ⟨b, 4, none⟩) (.inl rfl) _
set_option maxRecDepth 100000 in
set_option maxHeartbeats 3200000 in
theorem geometryOf_any (HN0 : NumC) (a : Option Addr) (n c B : Nat) (F : List Con.Fd) (w : World) (hg : Gl w) (hF : FdR w B a n F) (hB : B ≤ w.heap.size) (hn : n ≤ 140737488351232) :
    Calls Tryz.prog 67 #[.slice a n c] w (GeoP F w) := by
  have HF0 := Lib.hid hF
  have HLEN := Lib.hid hF.len
  have HG := Lib.hid hg
  have HBB := Lib.hid hB
  have HSZ := Lib.hid (fun W => sizes_any (w.heap.size + 1) W)
  clear hF hg hB
  by_cases hne : n = 5
  · subst hne
    have HA : Hid (Con.geoF F = Con.numsF F) := by
      show _ = _
      unfold Con.geoF
      rw [if_pos HLEN.out]
    have U0 : Hid (Upd noBlock w ((w.alloc (.cells (geoC 0 0 0 0 0) 24)).alloc (.cells (geoC 0 0 0 0 0) 24))) := ((Upd.refl _ _).alloc _).alloc _
    have HK0 : Hid (∀ W, Upd noBlock ((w.alloc (.cells (geoC 0 0 0 0 0) 24)).alloc (.cells (geoC 0 0 0 0 0) 24)) W → GO w W F 0 0 0 0 0 0) := fun W h =>
      ⟨h.cells (by have h := heap_alloc_new (w.alloc (.cells (geoC 0 0 0 0 0) 24)) (.cells (geoC 0 0 0 0 0) 24); rw [World.size_alloc] at h; exact h) (fun h => h), h.cells (block_alloc (heap_alloc_new w _) _) (fun h => h), by rw [List.drop_zero, List.take_zero]; cases Con.numsF F <;> rfl, U0.out.trans h⟩
    go_enter Tryz.func67, Tryz.ntmps67
    go_wp2_with (go_at_call 41; (with_reducible refine (HSZ.out _).mono ?_); rintro e w1 ⟨rfl, h1⟩; have HK1 := Lib.hid (HK0.out _ (h1.alloc (.cells #[.pointer (some ⟨w.heap.size + 1, 0, none⟩), .pointer (some ⟨w.heap.size + 1, 1, none⟩), .pointer (some ⟨w.heap.size + 1, 2, none⟩), .pointer (some ⟨w.heap.size + 1, 3, none⟩), .pointer (some ⟨w.heap.size + 1, 4, none⟩)] 119))); clear h1)
    clear HK0 U0
    go_loopw [16] (fun i wr => ∃ (j : Nat) (x1 x2 x3 x4 x5 : Int), j ≤ 5 ∧ i = .int .i64 (j : Int) ∧ Hid (GO w wr F j x1 x2 x3 x4 x5)) (fun i _ => 5 - (intOf i).toNat)
    case atStart => exact ⟨0, 0, 0, 0, 0, 0, by omega, rfl, HK1⟩
    case round =>
      clear HK1
      obtain ⟨j, x1, x2, x3, x4, x5, hj, rfl, HJ⟩ := hrel
      have hJ := HJ.out
      by_cases hlt : j < 5
      · obtain ⟨g, off, ha, hgB, hcl⟩ := HF0.out.cell (by omega)
        subst ha
        have HFR := Lib.hid (HF0.out.grow hJ.up HBB.out)
        obtain ⟨g2, off2, ha2, _, hcl2⟩ := HFR.out.cell (by omega)
        cases ha2
        obtain ⟨d1, d2⟩ := hcl2 j hlt
        obtain ⟨f, hf⟩ : ∃ f, F.getD j (⟨#[]⟩, false) = f := ⟨_, rfl⟩
        rw [hf] at d1 d2
        obtain ⟨f1, f2⟩ := f
        have hFj : F[j]? = some (f1, f2) := by
          rw [← hf, List.getD_eq_getElem?_getD, List.getElem?_eq_getElem (by rw [HLEN.out]; exact hlt)]; rfl
        have hstep := nums_step hFj
        have hfit : f1.size ≤ 140737488351232 := HF0.out.fit _ (List.mem_of_getElem? hFj)
        have HU := Lib.hid hJ.up
        have HNC := Lib.hid (HN0 (f1, f2) wr (HG.out.grow hJ.up) hfit)
        have HST : Hid (Con.numsF F = (match Con.numF (f1, f2) with | some n => (Con.numsF (F.drop (j + 1))).map fun l => n :: l | none => none).map fun l => ([x1, x2, x3, x4, x5].take j) ++ l) := by
          have := hJ.run
          rw [hstep] at this
          exact this
        have HKP : Hid (∀ W, Upd noBlock wr W → W.heap[w.heap.size + 1]? = some (.cells (geoC x1 x2 x3 x4 x5) 24 (0, 0)) ∧ W.heap[w.heap.size]? = some (.cells (geoC 0 0 0 0 0) 24 (0, 0)) ∧ Upd noBlock w W) := fun W h => ⟨h.cells hJ.geo (fun h => h), h.cells hJ.res (fun h => h), HU.out.trans h⟩
        clear hJ HJ hcl hcl2 hFj hstep hf hgB hfit
        unfold numOut fdV at HNC
        cases hp : Con.numF (f1, f2) with
        | none =>
          rw [hp] at HST HNC
          clear hp
          have HR : Hid (Con.numsF F = none) := HST.out
          clear HST
          have i0 := idx_0 (w.heap.size + 1); have i1 := idx_1 (w.heap.size + 1); have i2 := idx_2 (w.heap.size + 1); have i3 := idx_3 (w.heap.size + 1); have i4 := idx_4 (w.heap.size + 1)
          unfold ptr5 at i0 i1 i2 i3 i4
          have hj5 : j = 0 ∨ j = 1 ∨ j = 2 ∨ j = 3 ∨ j = 4 := by omega
          rcases hj5 with rfl | rfl | rfl | rfl | rfl
          all_goals
            try simp only [Nat.zero_mul, Nat.add_zero] at d1 d2
            go_wp2_with (go_at_call 85; (with_reducible refine HNC.out.mono ?_); rintro e w2 ⟨rfl, h2⟩; have HW := Lib.hid (HKP.out _ h2); clear h2; obtain ⟨⟨r0, r1, r2, r3, r4⟩, q0, q1, q2, q3, q4⟩ := five_cells HW.out.2.1)
            obtain ⟨y1, y2⟩ := five_set HW.out.2.1 0 0 0 0 0
            have HX : Hid (_ ∧ _) := ⟨y1, HW.out.2.2.step y2 (fun i hi e => absurd e (by unfold oneBlock; omega))⟩
            clear y1 y2
            generalize (((((w2.setCell ⟨w.heap.size, 0, none⟩ (.int .i64 0)).setCell ⟨w.heap.size, 1, none⟩ (.int .i64 0)).setCell ⟨w.heap.size, 2, none⟩ (.int .i64 0)).setCell ⟨w.heap.size, 3, none⟩ (.int .i64 0)).setCell ⟨w.heap.size, 4, none⟩ (.int .i64 0)) = W6 at *
            exact bodyPost_ret_by (res_ct rfl _ _ w.heap.size _ _ _ _ _ rfl HX.out.1 Tryz.underlying24 rfl geoInfo rfl) rfl ⟨.inr ⟨HA.out.trans HR.out, rfl⟩, HX.out.2⟩
        | some m =>
          rw [hp] at HST HNC
          clear hp
          have HNX : Hid (∀ w2, Upd noBlock wr w2 → ∀ y1 y2 y3 y4 y5, (geoC x1 x2 x3 x4 x5).setIfInBounds j (.int .i64 m) = geoC y1 y2 y3 y4 y5 → [x1, x2, x3, x4, x5].take j ++ [m] = [y1, y2, y3, y4, y5].take (j + 1) → GO w (w2.setCell ⟨w.heap.size + 1, j, none⟩ (.int .i64 m)) F (j + 1) y1 y2 y3 y4 y5) := fun w2 h2 y1 y2 y3 y4 y5 he hl => by
            obtain ⟨g1, g2, g3⟩ := HKP.out w2 h2
            have hu : Upd (oneBlock (w.heap.size + 1)) w2 (w2.setCell ⟨w.heap.size + 1, j, none⟩ (.int .i64 m)) := (Upd.refl (oneBlock (w.heap.size + 1)) w2).setCell (p := ⟨w.heap.size + 1, j, none⟩) (.inl rfl) _
            refine ⟨by rw [← he]; exact block_set g1 _, hu.cells g2 (by unfold oneBlock; omega), ?_, g3.step hu (fun i hi e => absurd e (by unfold oneBlock; omega))⟩
            have h9 := HST.out
            rw [h9, ← hl]
            show ((Con.numsF (F.drop (j + 1))).map fun l => m :: l).map (fun l => [x1, x2, x3, x4, x5].take j ++ l) = _
            rw [Option.map_map]
            congr 1
            funext l
            show [x1, x2, x3, x4, x5].take j ++ (m :: l) = _
            rw [List.append_assoc]; rfl
          clear HST
          have i0 := idx_0 (w.heap.size + 1); have i1 := idx_1 (w.heap.size + 1); have i2 := idx_2 (w.heap.size + 1); have i3 := idx_3 (w.heap.size + 1); have i4 := idx_4 (w.heap.size + 1)
          unfold ptr5 at i0 i1 i2 i3 i4
          have hj5 : j = 0 ∨ j = 1 ∨ j = 2 ∨ j = 3 ∨ j = 4 := by omega
          rcases hj5 with rfl | rfl | rfl | rfl | rfl
          all_goals
            try simp only [Nat.zero_mul, Nat.add_zero] at d1 d2
            go_wp2_with (go_at_call 85; (with_reducible refine HNC.out.mono ?_); rintro e w2 ⟨rfl, h2⟩; have HW := Lib.hid (HKP.out _ h2); have HN9 := Lib.hid (HNX.out w2 h2); clear h2; obtain ⟨⟨r0, r1, r2, r3, r4⟩, q0, q1, q2, q3, q4⟩ := five_cells HW.out.1)
            go_roundw
            case measure => simp [intOf] <;> omega
          case rel => exact ⟨1, m, x2, x3, x4, x5, by omega, rfl, HN9.out _ _ _ _ _ rfl rfl⟩
          case rel => exact ⟨2, x1, m, x3, x4, x5, by omega, rfl, HN9.out _ _ _ _ _ rfl rfl⟩
          case rel => exact ⟨3, x1, x2, m, x4, x5, by omega, rfl, HN9.out _ _ _ _ _ rfl rfl⟩
          case rel => exact ⟨4, x1, x2, x3, m, x5, by omega, rfl, HN9.out _ _ _ _ _ rfl rfl⟩
          case rel => exact ⟨5, x1, x2, x3, x4, m, by omega, rfl, HN9.out _ _ _ _ _ rfl rfl⟩
      · obtain rfl : j = 5 := by omega
        have HD : Hid (Con.numsF F = some [x1, x2, x3, x4, x5]) := by
          show _ = _
          rw [hJ.run, List.drop_eq_nil_of_le (by rw [HLEN.out]; omega)]; rfl
        obtain ⟨⟨k0, k1, k2, k3, k4⟩, _⟩ := five_cells hJ.geo
        obtain ⟨⟨r0, r1, r2, r3, r4⟩, q0, q1, q2, q3, q4⟩ := five_cells hJ.res
        have HU := Lib.hid hJ.up
        obtain ⟨y1, y2⟩ := five_set hJ.res x1 x2 x3 x4 x5
        have HX : Hid (_ ∧ _) := ⟨y1, HU.out.step y2 (fun i hi e => absurd e (by unfold oneBlock; omega))⟩
        clear hJ HJ y1 y2 hlt
        go_wp2
        generalize (((((wr.setCell ⟨w.heap.size, 0, none⟩ (.int .i64 x1)).setCell ⟨w.heap.size, 1, none⟩ (.int .i64 x2)).setCell ⟨w.heap.size, 2, none⟩ (.int .i64 x3)).setCell ⟨w.heap.size, 3, none⟩ (.int .i64 x4)).setCell ⟨w.heap.size, 4, none⟩ (.int .i64 x5)) = W6 at *
        exact bodyPost_ret_by (res_ct rfl _ _ w.heap.size _ _ _ _ _ rfl HX.out.1 Tryz.underlying24 rfl geoInfo rfl) rfl ⟨.inl ⟨x1, x2, x3, x4, x5, HA.out.trans HD.out, rfl⟩, HX.out.2⟩
  · have e1 : ((n : Int) != 5) = true := by rw [bne_iff_ne]; omega
    have HA : Hid (Con.geoF F = none) := by
      show _ = _
      unfold Con.geoF
      rw [if_neg]
      rw [HLEN.out]; exact hne
    have HW : Hid (∀ o3 w1, Upd noBlock ((w.alloc (.cells (geoC 0 0 0 0 0) 24)).alloc (.cells (geoC 0 0 0 0 0) 24)) w1 → (w1.alloc o3).heap[w.heap.size]? = some (.cells (geoC 0 0 0 0 0) 24 (0, 0)) ∧ Upd noBlock w (w1.alloc o3)) := fun o3 w1 h =>
      ⟨(h.alloc o3).cells (block_alloc (heap_alloc_new w _) _) (fun h => h), (((Upd.refl noBlock w).alloc _).alloc _ |>.trans h).alloc o3⟩
    clear hne
    go_enter Tryz.func67, Tryz.ntmps67
    go_wp2_with (go_at_call 41; (with_reducible refine (HSZ.out _).mono ?_); rintro e w1 ⟨rfl, h1⟩; have HW1 := Lib.hid (HW.out (.cells #[.pointer (some ⟨w.heap.size + 1, 0, none⟩), .pointer (some ⟨w.heap.size + 1, 1, none⟩), .pointer (some ⟨w.heap.size + 1, 2, none⟩), .pointer (some ⟨w.heap.size + 1, 3, none⟩), .pointer (some ⟨w.heap.size + 1, 4, none⟩)] 119) _ h1); clear h1; obtain ⟨⟨r0, r1, r2, r3, r4⟩, q0, q1, q2, q3, q4⟩ := five_cells HW1.out.1)
    obtain ⟨y1, y2⟩ := five_set HW1.out.1 0 0 0 0 0
    have HX : Hid (_ ∧ _) := ⟨y1, HW1.out.2.step y2 (fun i hi e => absurd e (by unfold oneBlock; omega))⟩
    exact bodyPost_ret_by (res_ct rfl _ _ w.heap.size _ _ _ _ _ rfl HX.out.1 Tryz.underlying24 rfl geoInfo rfl) rfl ⟨.inr ⟨HA.out, rfl⟩, HX.out.2⟩
end Go.Proofs.YthcjogigkagmdaaGreatDoor
