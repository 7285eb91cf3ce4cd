/- differences: the changes of the pieces that differ. -/
import Derived.Test.YtcfilepilgjlaaaDoorEc
import Derived.Test.YtcfilepilgjlaaaDoorEd
namespace Go.Proofs.YtcfilepilgjlaaaDoor
open Go.RowKit

def difL (first : Int) (f1 f2 : Nat → UInt8) (m : Nat) : List (Int × List UInt8) :=
  ((List.range m).filter fun (p : Nat) => !same64 f2 f1 (p * 64) (p * 64) 64).map fun (p : Nat) => (first + (p : Int), tx f2 (p * 64))
theorem difL_len (first : Int) (f1 f2 : Nat → UInt8) (m : Nat) : (difL first f1 f2 m).length ≤ m := by
  unfold difL; rw [List.length_map]
  have := List.length_filter_le (fun (p : Nat) => !same64 f2 f1 (p * 64) (p * 64) 64) (List.range m)
  rwa [List.length_range] at this
theorem difL_same (first : Int) (f1 f2 : Nat → UInt8) (m : Nat) (h : same64 f2 f1 (m * 64) (m * 64) 64 = true) : difL first f1 f2 (m + 1) = difL first f1 f2 m := by
  unfold difL; rw [List.range_succ, List.filter_append, List.filter_cons_of_neg (by rw [h]; decide)]; simp
theorem difL_other (first : Int) (f1 f2 : Nat → UInt8) (m : Nat) (h : same64 f2 f1 (m * 64) (m * 64) 64 = false) : difL first f1 f2 (m + 1) = difL first f1 f2 m ++ [(first + (m : Int), tx f2 (m * 64))] := by
  unfold difL; rw [List.range_succ, List.filter_append, List.filter_cons_of_pos (by rw [h]; decide), List.map_append]; rfl
/-- the cells of changes -/
def chL (nm : Int) (L : List (Int × List UInt8)) : List Value := (L.map fun c => (chC nm c.1 c.2).toList).flatten
theorem chL_snoc (nm : Int) (L : List (Int × List UInt8)) (c : Int × List UInt8) : chL nm (L ++ [c]) = chL nm L ++ (chC nm c.1 c.2).toList := by simp [chL]
theorem chParts : ∃ i0 z0, Tryd.prog.info? 42 = some i0 ∧ i0.zero = some z0 ∧ i0.size = 6 ∧ i0.bytes = 64 ∧ z0.cells.size = 6 := by
  have h : (Tryd.prog.info? 42).map (fun i => (i.zero.map (fun z => z.cells.size), i.size, i.bytes)) = some (some 6, 6, 64) := by kernel_rfl
  obtain ⟨i0, h1, h2⟩ := Option.map_eq_some_iff.1 h
  simp only [Prod.mk.injEq] at h2
  obtain ⟨z0, h3, h4⟩ := Option.map_eq_some_iff.1 h2.1
  exact ⟨i0, z0, h1, h3, h2.2.1, h2.2.2, h4⟩
/-- what the changes made so far are -/
structure Chs (w wr : World) (nm : Int) (v : Value) (L : List (Int × List UInt8)) : Prop where
  own : wr.ownsRow w.heap.size 42 6 v L.length (chL nm L)
  up : Upd noBlock w wr
theorem Chs.nil (w : World) (nm : Int) : Chs w w nm (.slice none 0 0) [] := ⟨World.ownsRow_nil _ _ _ _, Upd.refl _ _⟩
theorem Chs.grow {w wr wr' : World} {nm : Int} {v : Value} {L : List (Int × List UInt8)} (h : Chs w wr nm v L) (hu : Upd noBlock wr wr') : Chs w wr' nm v L := ⟨own_grow8 h.own hu, h.up.trans hu⟩
theorem Chs.snoc {w w1 w2 : World} {nm : Int} {v v' : Value} {L : List (Int × List UInt8)} (c : Int × List UInt8) (h : Chs w w1 nm v L) (hg : w1.grownBy w2 v.ownBlock) (ho : w2.ownsRow w.heap.size 42 6 v' (L.length + 1) (chL nm L ++ (chC nm c.1 c.2).toList)) : Chs w w2 nm v' (L ++ [c]) :=
  ⟨by rw [List.length_append, List.length_singleton, chL_snoc]; exact ho, upd_of_grown h.up hg (fun k hk => .inr (own_base8 h.own k hk).1)⟩
theorem chs_new (W : World) (nm p : Int) (t : List UInt8) : ∀ j u, (chC nm p t).toList[j]? = some u → (W.alloc (.cells (chC nm p t) 42)).cell? ((⟨W.heap.size, 0, none⟩ : Addr).add j) = some u := fun j u hu => by
  rw [add_zero_addr, cell_of (heap_alloc_new W _)]
  rwa [Array.getElem?_toList] at hu
theorem chs_one (nm p : Int) (t : List UInt8) : ∀ u ∈ (chC nm p t).toList, u.oneCell' = true := by
  intro u hu
  unfold chC at hu
  simp only [List.mem_cons, List.not_mem_nil, or_false] at hu
  rcases hu with rfl | rfl | rfl | rfl | rfl | rfl <;> rfl
set_option maxRecDepth 100000 in
set_option maxHeartbeats 3200000 in
theorem differences_any (nm first : Int) (g1 c1 g2 c2 m : Nat) (f1 f2 : Nat → UInt8) (w : World) (h1 : R8 w g1 (m * 64) f1) (h2 : R8 w g2 (m * 64) f2) (hc1 : m * 64 ≤ c1) (hc2 : m * 64 ≤ c2) (hm : m ≤ 512) (hf0 : 0 ≤ first) (hf1 : first ≤ 4611686018427387904) :
    Calls Tryd.prog 17 #[.int .i64 nm, .int .i64 first, .slice (some ⟨g1, 0, none⟩) (m * 64) c1, .slice (some ⟨g2, 0, none⟩) (m * 64) c2] w fun e w' => ∃ v, e = .returned v ∧ Chs w w' nm v (difL first f1 f2 m) := by
  obtain ⟨i0, z0, hi0, hz0, hz1, hz2, hz3⟩ := chParts
  have H1 := Lib.hid h1
  have H2 := Lib.hid h2
  clear h1 h2
  go_enter Tryd.func17, Tryd.ntmps17
  go_wp2
  go_loopw [9, 10] (fun v i wr => ∃ (x : Value) (k : Nat), k ≤ m ∧ x = v ∧ i = .int .i64 ((k : Int) * 64) ∧ Hid (Chs w wr nm x (difL first f1 f2 k))) (fun _ i _ => m * 64 - (intOf i).toNat)
  case atStart => exact ⟨_, 0, Nat.zero_le _, rfl, rfl, Chs.nil w nm⟩
  case round =>
    obtain ⟨x, k, hk, rfl, rfl, HL⟩ := hrel
    by_cases h0 : k < m
    · have HE := Lib.hid (Equal_any g2 (k * 64) (m * 64) (c2 - k * 64) g1 (k * 64) (m * 64) (c1 - k * 64) 64 f2 f1 wr (H2.out.grow HL.out.up) (H1.out.grow HL.out.up) (by omega) (by omega) (by omega))
      have hs2 : ∀ w' : World, (Instr.sliceAt 37 (.slice (some ⟨g2, 0, none⟩) (m * 64) c2) (some (.int .i64 ((k : Int) * 64))) (some (.int .i64 ((k : Int) * 64 + 64))) none).run Tryd.prog w' = .ok (.slice (some ⟨g2, k * 64, none⟩) 64 (c2 - k * 64)) w' := fun w' => by
        have := slice8 w' g2 0 (m * 64) c2 (k * 64) ((k + 1) * 64) ((k : Int) * 64) ((k : Int) * 64 + 64) (by omega) (by omega) (by omega) (by omega) (by omega)
        rwa [Nat.zero_add, show (k + 1) * 64 - k * 64 = 64 by omega] at this
      have hs1 : ∀ w' : World, (Instr.sliceAt 37 (.slice (some ⟨g1, 0, none⟩) (m * 64) c1) (some (.int .i64 ((k : Int) * 64))) (some (.int .i64 ((k : Int) * 64 + 64))) none).run Tryd.prog w' = .ok (.slice (some ⟨g1, k * 64, none⟩) 64 (c1 - k * 64)) w' := fun w' => by
        have := slice8 w' g1 0 (m * 64) c1 (k * 64) ((k + 1) * 64) ((k : Int) * 64) ((k : Int) * 64 + 64) (by omega) (by omega) (by omega) (by omega) (by omega)
        rwa [Nat.zero_add, show (k + 1) * 64 - k * 64 = 64 by omega] at this
      have e1 : ((k : Int) * 64).tdiv 64 = (k : Int) := by rw [Int.tdiv_eq_ediv_of_nonneg (by omega)]; omega
      rcases hb : same64 f2 f1 (k * 64) (k * 64) 64 with _ | _
      · have HD := Lib.hid (difL_other first f1 f2 k hb)
        have HCH := Lib.hid (fun W (hu : Upd noBlock wr W) => changeOf_row nm (first + (k : Int)) g2 (k * 64) (m * 64) (c2 - k * 64) f2 W (H2.out.grow (HL.out.up.trans hu)) (by omega))
        have HLN := Lib.hid (difL_len first f1 f2 k)
        obtain ⟨T, hT⟩ : ∃ T, tx f2 (k * 64) = T := ⟨_, rfl⟩
        rw [hb] at HE
        rw [hT] at HD HCH
        have HN := Lib.hid (fun W => chs_new W nm (first + (k : Int)) T)
        have HO := Lib.hid (chs_one nm (first + (k : Int)) T)
        have HS := Lib.hid (fun w1 w2 v' (h : Chs w w1 nm x (difL first f1 f2 k)) hg ho => Chs.snoc (w2 := w2) (v' := v') (first + (k : Int), T) h hg ho)
        unfold chC at HCH HN HO HS
        generalize (⟨(if T = [] then [] else packL T).toArray⟩ : ByteArray) = Q at *
        generalize T.isEmpty = bb at *
        have HB1 : Hid ((difL first f1 f2 k).length + 1 ≤ maxLen ∧ ((difL first f1 f2 k).length + 1) * 64 ≤ 140737488355328) := by
          have := HLN.out
          show _ ∧ _
          unfold maxLen; omega
        clear hb hT
        go_wp2_with (first
          | (go_at_call 24; (with_reducible refine HE.out.mono ?_); rintro e w1 ⟨rfl, u1⟩; have U1 := Lib.hid u1; clear u1)
          | (go_at_call 22; (with_reducible refine (HCH.out _ U1.out).mono ?_); rintro e w2 ⟨rfl, u2⟩; have HX := Lib.hid ((HL.out.grow (U1.out.trans u2)).grow ((Upd.refl noBlock w2).alloc (.cells #[.int .i64 nm, .int .i64 3, .string ⟨#[]⟩, .int .i64 (first + (k : Int)), .string Q, .bool bb] 42))); have HNN := Lib.hid (HN.out w2); have hbz := (HL.out.up.trans ((U1.out.trans u2).alloc (.cells #[.int .i64 nm, .int .i64 3, .string ⟨#[]⟩, .int .i64 (first + (k : Int)), .string Q, .bool bb] 42))).size; clear u2)
          | (at_builtin; refine wpList_append_own _ rfl (.tmp 31) (.tmp 39) 25 rfl w.heap.size 42 i0 z0 6 64 Tryd.underlying25 hi0 hz0 hz1 hz2 hz3 (by decide) x _ _ rfl HX.out.own ⟨w2.heap.size, 0, none⟩ 1 1 _ rfl rfl HNN.out HO.out HB1.out.1 HB1.out.2 hbz ?_; intro v' w3 hO hg _; have HY := Lib.hid (HS.out _ _ _ HX.out hg hO); clear hO hg))
        rw [← HD.out] at HY
        go_roundw
        case rel => exact ⟨_, k + 1, by omega, rfl, by go_num, HY⟩
        case measure => simp [intOf] <;> omega
      · have HD := Lib.hid (difL_same first f1 f2 k hb)
        rw [hb] at HE
        clear hb
        go_wp2_with (first
          | (go_at_call 24; (with_reducible refine HE.out.mono ?_); rintro e w1 ⟨rfl, u1⟩; have HY := Lib.hid (HL.out.grow u1); clear u1))
        rw [← HD.out] at HY
        go_roundw
        case rel => exact ⟨_, k + 1, by omega, rfl, by go_num, HY⟩
        case measure => simp [intOf] <;> omega
    · obtain rfl : k = m := by omega
      go_wp2
      go_ret
      exact ⟨_, rfl, HL.out⟩
end Go.Proofs.YtcfilepilgjlaaaDoor
