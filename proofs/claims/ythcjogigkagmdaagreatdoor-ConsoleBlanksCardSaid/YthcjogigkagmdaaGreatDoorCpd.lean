/- showGeometry. -/
import Derived.Test.YthcjogigkagmdaaGreatDoorCpc
namespace Go.Proofs.YthcjogigkagmdaaGreatDoor
open Go.RowKit
set_option linter.unusedVariables false

theorem strParts : ∃ i0, Tryz.prog.info? 9 = some i0 ∧ i0.zero = some (.string ⟨#[]⟩) ∧ i0.size = 1 ∧ i0.bytes = 16 := by
  have h : (Tryz.prog.info? 9).map (fun i => (i.zero, i.size, i.bytes)) = some (some (.string ⟨#[]⟩), 1, 16) := by kernel_rfl
  obtain ⟨i0, h1, h2⟩ := Option.map_eq_some_iff.1 h
  simp only [Prod.mk.injEq] at h2
  exact ⟨i0, h1, h2.1, h2.2.1, h2.2.2⟩
theorem StrR.grow {w w' : World} {B : Nat} {v : Value} {xs : List ByteArray} (h : StrR w B v xs) (hu : Upd noBlock w w') : StrR w' B v xs := own_keep h hu (fun _ _ h => h) (Nat.le_refl _)
theorem StrR.first (w : World) (x : ByteArray) : StrR (w.alloc (.cells #[.string x] 9)) w.heap.size (.slice (some ⟨w.heap.size, 0, none⟩) 1 1) [x] :=
  ⟨rfl, .inr ⟨w.heap.size, 1, _, rfl, Nat.le_refl _, heap_alloc_new w _, Nat.le_refl _, by unfold maxLen; omega, rfl, rfl⟩⟩
theorem own_moreS {w0 wr wa w2 : World} {B : Nat} {v v2 : Value} {L : List ByteArray} {x : ByteArray} (hv : StrR wr B v L) (hB : B = w0.heap.size) (h0 : Upd noBlock w0 wr) (h1 : Upd noBlock wr wa)
    (hO : w2.ownsRow B 9 1 v2 (L.length + 1) (L.map Value.string ++ [.string x])) (hg : wa.grownBy w2 v.ownBlock) : StrR w2 B v2 (L ++ [x]) ∧ Upd noBlock w0 w2 :=
  ⟨by unfold StrR; rw [List.length_append, List.map_append]; exact hO, upd_of_grown (h0.trans h1) hg (fun j hj => .inr (by rw [← hB]; exact (own_row_base hv j hj).1))⟩
def itoaB (n : Int) : ByteArray := ⟨(Lib.itoa n).toArray⟩
theorem geo_line (l : List Int) : lineB (⟨(Con.wordK 0).toArray⟩ :: l.map itoaB) = Con.showG l := by
  unfold lineB Con.showG itoaB
  simp only [List.map_cons, List.map_map]
  rfl
theorem idx_all (b : Nat) (w : World) : ∀ j : Nat, j < 5 → (Instr.index 119 (.agg #[.pointer (some ⟨b, 0, none⟩), .pointer (some ⟨b, 1, none⟩), .pointer (some ⟨b, 2, none⟩), .pointer (some ⟨b, 3, none⟩), .pointer (some ⟨b, 4, none⟩)]) (.int .i64 (j : Int))).run Tryz.prog w = .ok (.pointer (some ⟨b, j, none⟩)) w
  | 0, _ => idx_0 b w
  | 1, _ => idx_1 b w
  | 2, _ => idx_2 b w
  | 3, _ => idx_3 b w
  | 4, _ => idx_4 b w
  | _ + 5, h => by omega
/-- what holds ahead of each round -/
structure SgJ (wb wr : World) (g : List Int) (j : Nat) (v : Value) : Prop where
  own : StrR wr wb.heap.size v (⟨(Con.wordK 0).toArray⟩ :: (g.take j).map itoaB)
  up : Upd noBlock wb wr
set_option maxRecDepth 100000 in
set_option maxHeartbeats 1600000 in
theorem showGeometry_any (x1 x2 x3 x4 x5 : Int) (w : World) (hg : Gl w) (hx : ∀ n ∈ [x1, x2, x3, x4, x5], -9223372036854775808 ≤ n ∧ n ≤ 9223372036854775807) (hl : (Con.showG [x1, x2, x3, x4, x5]).length ≤ 140737488355328) :
    Calls Tryz.prog 24 #[.agg #[.int .i64 x1, .int .i64 x2, .int .i64 x3, .int .i64 x4, .int .i64 x5]] w fun e w' => e = .returned (.string ⟨(Con.showG [x1, x2, x3, x4, x5]).toArray⟩) ∧ Upd noBlock w w' := by
  obtain ⟨i0, hi0, hz0, hz1, hz2⟩ := strParts
  obtain ⟨t0, z0, hc⟩ := hg.cmds
  have hw0 : ∀ o, (w.alloc o).cell? ⟨1, 0, none⟩ = some (.string ⟨(Con.wordK 0).toArray⟩) := fun o => by
    rw [cell_of (block_alloc hc o)]; exact (cmd_at (k := 0) (by omega)).1
  obtain ⟨W0, hW0⟩ : ∃ W0 : ByteArray, (⟨(Con.wordK 0).toArray⟩ : ByteArray) = W0 := ⟨_, rfl⟩
  rw [hW0] at hw0
  have HW0 := Lib.hid hW0
  obtain ⟨wb, hwb⟩ : ∃ wb, w.alloc (.cells #[.int .i64 x1, .int .i64 x2, .int .i64 x3, .int .i64 x4, .int .i64 x5] 24) = wb := ⟨_, rfl⟩
  have hbs : wb.heap.size = w.heap.size + 1 := by rw [← hwb]; simp
  have HB0 : Hid (wb.heap[w.heap.size]? = some (.cells (geoC x1 x2 x3 x4 x5) 24 (0, 0))) := by show _ = _; rw [← hwb]; exact heap_alloc_new w _
  have UB : Hid (Upd noBlock w wb) := by show Upd _ _ _; rw [← hwb]; exact (Upd.refl _ _).alloc _
  have hwc := hw0 (.cells #[.int .i64 x1, .int .i64 x2, .int .i64 x3, .int .i64 x4, .int .i64 x5] 24)
  rw [hwb] at hwc
  have HSZ := Lib.hid (fun W => sizes_any w.heap.size W)
  have HG := Lib.hid (fun W (h : Upd noBlock wb W) => (hg.grow UB.out).grow h)
  have HX := Lib.hid hx
  have HL := Lib.hid hl
  clear hw0 hc hg hx hl hW0
  obtain ⟨gl, hgl⟩ : ∃ gl, [x1, x2, x3, x4, x5] = gl := ⟨_, rfl⟩
  have HAT : Hid (∀ j, j < 5 → ∃ n, gl[j]? = some n ∧ n ∈ gl ∧ ∀ W, Upd noBlock wb W → W.cell? ⟨w.heap.size, j, none⟩ = some (.int .i64 n)) := fun j hj => by
    have hlen : gl.length = 5 := by rw [← hgl]; rfl
    obtain ⟨n, hn⟩ : ∃ n, gl[j]? = some n := ⟨_, List.getElem?_eq_getElem (by omega)⟩
    refine ⟨n, hn, List.mem_of_getElem? hn, fun W hu => ?_⟩
    rw [cell_of (hu.cells HB0.out (fun h => h)) j]
    have : (geoC x1 x2 x3 x4 x5) = (gl.map (Value.int .i64)).toArray := by rw [← hgl]; rfl
    rw [this, List.getElem?_toArray, List.getElem?_map, hn]; rfl
  have HG5 : Hid (gl.length = 5) := by show _ = _; rw [← hgl]; rfl
  rw [hgl] at HX HL ⊢
  clear hgl HB0
  go_enter Tryz.func24, Tryz.ntmps24
  go_wp2_with (go_at_call 41; (with_reducible refine (HSZ.out _).mono ?_); rintro e w1 ⟨rfl, hu⟩; have U1 := Lib.hid hu; clear hu)
  have UW1 : Hid (Upd noBlock wb w1) := ((Upd.refl _ _).alloc _).trans U1.out
  have HK : Hid (SgJ wb w1 gl 0 (.slice (some ⟨w.heap.size + 1, 0, none⟩) 1 1)) := by
    have h1 := (StrR.first wb W0).grow U1.out
    rw [hbs] at h1
    exact ⟨by rw [HW0.out, hbs]; exact h1, UW1.out⟩
  clear U1 UW1
  go_loopw [3, 11] (fun v i wr => ∃ j : Nat, j ≤ 5 ∧ i = .int .i64 (j : Int) ∧ Hid (SgJ wb wr gl j v)) (fun _ i _ => 5 - (intOf i).toNat)
  case atStart => exact ⟨0, by omega, rfl, HK⟩
  case round =>
    clear HK
    obtain ⟨j, hj, rfl, HJ⟩ := hrel
    by_cases hlt : j < 5
    · obtain ⟨n, hn, hm, hcell⟩ := HAT.out j hlt
      have hix := fun W => idx_all w.heap.size W j hlt
      have hcj := hcell wr HJ.out.up
      have dj : decide ((j : Int) < 5) = true := decide_eq_true (by omega)
      have hwj : IntKind.i64.wrap ((j : Int) + 1) = (j : Int) + 1 := IntWalk.i64_in _ (by omega)
      have HI := Lib.hid (itoa_any n (HX.out n hm).1 (HX.out n hm).2 wr (HG.out _ HJ.out.up))
      rw [show (⟨(Lib.itoa n).toArray⟩ : ByteArray) = itoaB n from rfl] at HI
      obtain ⟨I, hI⟩ : ∃ I, itoaB n = I := ⟨_, rfl⟩
      rw [hI] at HI
      obtain ⟨L, hL⟩ : ∃ L, (⟨(Con.wordK 0).toArray⟩ : ByteArray) :: (gl.take j).map itoaB = L := ⟨_, rfl⟩
      have HO : Hid (StrR wr wb.heap.size u3 L) := by show StrR _ _ _ _; rw [← hL]; exact HJ.out.own
      have HU : Hid (Upd noBlock wb wr) := HJ.out.up
      have HLL : Hid (L.length ≤ 6) := by show _ ≤ _; rw [← hL, List.length_cons, List.length_map, List.length_take]; omega
      have HN : Hid (∀ v2 w2, StrR w2 wb.heap.size v2 (L ++ [I]) → Upd noBlock wb w2 → SgJ wb w2 gl (j + 1) v2) := fun v2 w2 h1 h2 => ⟨by
        have e : (⟨(Con.wordK 0).toArray⟩ : ByteArray) :: (gl.take (j + 1)).map itoaB = L ++ [I] := by
          rw [List.take_add_one, hn, ← hL, ← hI]; simp
        rw [e]; exact h1, h2⟩
      have HBD : Hid (L.length + 1 ≤ maxLen ∧ (L.length + 1) * 16 ≤ 140737488355328) := by have := HLL.out; show _ ∧ _; unfold maxLen; omega
      have H1 : Hid (∀ u ∈ [Value.string I], u.oneCell' = true) := by intro u hu; simp at hu; subst hu; rfl
      clear hn hm hcell hI hL HJ
      go_wp2_with (first
        | (go_at_call 31; (with_reducible refine HI.out.mono ?_); rintro e w2 ⟨rfl, hu⟩; have U2 := Lib.hid hu; clear hu)
        | (at_builtin; go_loud (refine wpList_append_vals _ rfl (.tmp 14) (.tmp 19) _ rfl wb.heap.size 9 i0 (.string ⟨#[]⟩) 16 Tryz.underlying52 hi0 hz0 hz1 hz2 rfl u3 L.length (L.map Value.string) rfl ((HO.out.grow U2.out).grow ((Upd.refl _ _).alloc (.cells #[.string I] 9))) (w2.heap.size + 1) (some ⟨w2.heap.size, 0, none⟩) 1 1 [.string I] rfl (Row1.arr w2 9 #[.string I]) H1.out HBD.out.1 HBD.out.2 ((HU.out.trans U2.out).alloc _).size ?_; intro v2 w3 hO hg _; have HQ := Lib.hid (own_moreS HO.out rfl HU.out (U2.out.alloc _) hO hg); clear hO hg)))
      go_roundw
      case rel => exact ⟨j + 1, by omega, by simp, HN.out _ _ HQ.out.1 HQ.out.2⟩
      case measure => simp only [intOf]; omega
    · obtain rfl : j = 5 := by omega
      have HLO := Lib.hid (lineOf_any wb.heap.size u3 _ wr HJ.out.own (by simp) (by rw [List.length_cons, List.length_map, List.length_take]; omega) (by rw [geo_line, List.take_of_length_le (by rw [HG5.out]; exact Nat.le_refl _)]; exact HL.out))
      rw [geo_line, List.take_of_length_le (by rw [HG5.out]; exact Nat.le_refl _)] at HLO
      have HU : Hid (Upd noBlock wb wr) := HJ.out.up
      clear HJ hlt
      go_wp2_with (go_at_call 30; (with_reducible refine HLO.out.mono ?_); rintro e w2 ⟨rfl, hu⟩; have U2 := Lib.hid hu; clear hu)
      go_ret
      exact ⟨rfl, (UB.out.trans HU.out).trans U2.out⟩
end Go.Proofs.YthcjogigkagmdaaGreatDoor
