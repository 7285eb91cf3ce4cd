/- The plan of a block: parity.Of, the document's. -/
import Derived.Test.YtkjajmhanhbkdaaTa
namespace Go.Proofs.Ytkjajmhanhbkdaa
open Go.RowKit

/-- is a page of data? -/
def isData (s : Bool) (p : Nat) : Bool := !s || decide (p % 4 < 2)
/-- the data pages below k -/
def dl (s : Bool) : Nat → List Int
  | 0 => []
  | k + 1 => dl s k ++ (if isData s k = true then [(k : Int)] else [])
theorem dl_len (s : Bool) (k : Nat) : (dl s k).length ≤ k := by
  induction k with
  | zero => exact Nat.le_refl _
  | succ k ih =>
    unfold dl
    rw [List.length_append]
    split
    · simp; omega
    · simp; omega
theorem dl_yes {s : Bool} {k : Nat} (h : isData s k = true) : dl s (k + 1) = dl s k ++ [(k : Int)] := by
  show dl s k ++ _ = _
  rw [if_pos h]
theorem dl_no {s : Bool} {k : Nat} (h : isData s k = false) : dl s (k + 1) = dl s k := by
  show dl s k ++ _ = _
  rw [h, if_neg (by decide), List.append_nil]
/-- a row of one or two -/
theorem own_one (w : World) (x : Int) : OwnV (w.alloc (.cells #[.int .i64 x] 3)) w.heap.size (.slice (some ⟨w.heap.size, 0, none⟩) 1 1) [x] :=
  ⟨rfl, .inr ⟨w.heap.size, 1, #[.int .i64 x], rfl, Nat.le_refl _, heap_alloc_new w _, Nat.le_refl _, by show _ ≤ maxLen; unfold maxLen; simp, rfl, rfl⟩⟩
theorem own_two (w : World) (x y : Int) : OwnV (w.alloc (.cells #[.int .i64 x, .int .i64 y] 3)) w.heap.size (.slice (some ⟨w.heap.size, 0, none⟩) 2 2) [x, y] :=
  ⟨rfl, .inr ⟨w.heap.size, 2, #[.int .i64 x, .int .i64 y], rfl, Nat.le_refl _, heap_alloc_new w _, Nat.le_refl _, by show _ ≤ maxLen; unfold maxLen; simp, rfl, rfl⟩⟩
def parL (s : Bool) (n : Nat) : List Int := if s = true then [(n : Int) - 3] else [(n : Int) - 3, (n : Int) - 1]

theorem ret_plan (w : World) (b : Nat) (v1 v2 : Value) (x : Bool) (tmps : Array Value) (hb : w.heap[b]? = some (.cells #[v1, v2] 25 (0, 0))) (h4 : tmps.getD 4 undef = .pointer (some ⟨b, 0, none⟩)) (h5 : tmps.getD 5 undef = .bool x) :
    (results Try.f11 tmps).run Try.prog w = .ok (.tuple #[.agg #[v1, v2], .bool x]) w := by
  have c0 : w.cell? ⟨b, 0, none⟩ = some v1 := cell_of hb 0
  have c1 : w.cell? ⟨b, 1, none⟩ = some v2 := cell_of hb 1
  rw [results_cell_tmp rfl, h4, h5]
  simp [go_sem, c0, c1]
/-- behind the last store -/
theorem of_end (s : Bool) (n : Nat) (w wr : World) (D : List Int) (v v2 : Value) (O : Obj) (hO : OwnV wr (w.heap.size + 1) v D) (hP : wr.heap[w.heap.size]? = some (.cells #[.slice none 0 0, .slice none 0 0] 25 (0, 0)))
    (hU : Upd noBlock w wr) (h2 : OwnV (wr.alloc O) wr.heap.size v2 (parL s n)) :
    (((wr.alloc O).setCell ⟨w.heap.size, 0, none⟩ v).setCell ⟨w.heap.size, 1, none⟩ v2).heap[w.heap.size]? = some (.cells #[v, v2] 25 (0, 0)) ∧
    OwnV (((wr.alloc O).setCell ⟨w.heap.size, 0, none⟩ v).setCell ⟨w.heap.size, 1, none⟩ v2) w.heap.size v D ∧
    OwnV (((wr.alloc O).setCell ⟨w.heap.size, 0, none⟩ v).setCell ⟨w.heap.size, 1, none⟩ v2) w.heap.size v2 (parL s n) ∧
    Upd noBlock w (((wr.alloc O).setCell ⟨w.heap.size, 0, none⟩ v).setCell ⟨w.heap.size, 1, none⟩ v2) := by
  have u1 : Upd (oneBlock w.heap.size) (wr.alloc O) (((wr.alloc O).setCell ⟨w.heap.size, 0, none⟩ v).setCell ⟨w.heap.size, 1, none⟩ v2) := ((Upd.refl (oneBlock w.heap.size) (wr.alloc O)).setCell (p := ⟨w.heap.size, 0, none⟩) (.inl rfl) v).setCell (p := ⟨w.heap.size, 1, none⟩) (.inl rfl) v2
  have hlt := lt_of_block hP
  refine ⟨block_set (block_set (block_alloc hP O) v) v2, ?_, ?_, ?_⟩
  · exact ((hO.grow ((Upd.refl noBlock wr).alloc O)).upd u1 (fun g hg e => by have := (hO.lt g hg).1; unfold oneBlock at e; omega)).more (by omega)
  · exact (h2.upd u1 (fun g hg e => by have := (h2.lt g hg).1; unfold oneBlock at e; omega)).more (by omega)
  · exact ((hU.alloc O).setCell (.inr (Nat.le_refl _)) _).setCell (.inr (Nat.le_refl _)) _

set_option maxRecDepth 100000 in
set_option maxHeartbeats 1600000 in
theorem of_in (n : Nat) (s : Bool) (w : World) (h1 : 4 ≤ n) (h2 : n ≤ 64) (h3 : n % 4 = 0) :
    Calls Try.prog 11 #[.int .i64 (n : Int), .bool s] w fun e w' =>
      ∃ v1 v2, e = .returned (.tuple #[.agg #[v1, v2], .bool true]) ∧ OwnV w' w.heap.size v1 (dl s (n - 3)) ∧ OwnV w' w.heap.size v2 (parL s n) ∧ Upd noBlock w w' := by
  obtain ⟨i0, hi0, hz0, hz1, hz2⟩ := intParts7
  have t3 : ((n : Int) % 4 != 0) = false := by rw [bne_eq_false_iff_eq]; omega
  obtain ⟨m, hm⟩ : ∃ m, m = n - 3 := ⟨_, rfl⟩
  have e1 : (n : Int) - 3 = (m : Int) := by omega
  rw [← hm]
  have HE := Lib.hid hm
  have hm64 : m ≤ 61 := by omega
  clear hm h3
  go_enter Try.func11, Try.ntmps11
  go_wp2
  obtain ⟨w0, hw0⟩ : ∃ w0, w0 = w.alloc (.cells #[.slice none 0 0, .slice none 0 0] 25) := ⟨_, rfl⟩
  have P0 : Hid (w0.heap[w.heap.size]? = some (.cells #[.slice none 0 0, .slice none 0 0] 25 (0, 0))) := by rw [hw0]; exact heap_alloc_new w _
  have U0 : Hid (Upd noBlock w w0) := by rw [hw0]; exact (Upd.refl _ _).alloc _
  have S0 : w.heap.size < w0.heap.size := lt_of_block P0.out
  rw [← hw0]
  clear hw0
  go_loopw [7, 24] (fun v i wr => ∃ k : Nat, k ≤ m ∧ i = .int .i64 (k : Int) ∧ Hid (OwnV wr (w.heap.size + 1) v (dl s k)) ∧ Hid (wr.heap[w.heap.size]? = some (.cells #[.slice none 0 0, .slice none 0 0] 25 (0, 0))) ∧ Hid (Upd noBlock w wr)) (fun _ i _ => m - (intOf i).toNat)
  case atStart => exact ⟨0, Nat.zero_le _, rfl, OwnV.nil _ _, P0, U0⟩
  case round =>
    clear P0 U0 S0
    obtain ⟨k, hk, rfl, HO, HP, HU⟩ := hrel
    by_cases h0 : k < m
    · have HL : Hid ((dl s k).length ≤ 61) := by have := dl_len s k; show _ ≤ 61; omega
      have hbase : w.heap.size + 1 ≤ wr.heap.size := lt_of_block HP.out
      have HO2 := Lib.hid (HO.out.grow ((Upd.refl noBlock wr).alloc (.cells #[.int .i64 (k : Int)] 3)))
      have HP2 := Lib.hid (block_alloc HP.out (.cells #[.int .i64 (k : Int)] 3))
      have HU2 := Lib.hid (HU.out.alloc (.cells #[.int .i64 (k : Int)] 3))
      have HI := Lib.hid (ints_new wr (k : Int))
      cases hs : isData s k
      · obtain ⟨rfl, hg⟩ : s = true ∧ ¬ k % 4 < 2 := by
          cases s <;> simp [isData] at hs
          exact ⟨rfl, by omega⟩
        have HG : Hid (grp k = 1) := if_neg hg
        have HN := Lib.hid (dl_no hs)
        clear hs hg HO2 HP2 HU2 HI
        go_wp2_with (go_at_call 19; refine (group_any k _ (by omega)).mono ?_; rintro e w' ⟨rfl, rfl⟩; rw [HG.out])
        go_roundw
        case rel => exact ⟨k + 1, by omega, by go_num, by rw [HN.out]; exact HO, HP, HU⟩
        case measure => simp [intOf]; omega
      · have HN := Lib.hid (dl_yes hs)
        cases s
        · clear hs HP HU HO
          go_wp2_with (at_builtin; refine wpList_append_ints _ rfl (.tmp 34) (.tmp 36) _ rfl (w.heap.size + 1) 3 i0 _ Try.underlying23 hi0 hz0 hz1 hz2 rfl _ (dl false k).length (vals (dl false k)) rfl HO2.out (wr.heap.size + 1) (some ⟨wr.heap.size, 0, none⟩) 1 1 [(k : Int)] rfl HI.out (by have := HL.out; simp only [maxLen]; omega) (by have := HL.out; omega) (by simp; omega) ?_; intro v3 w3 hown3 hg3 _)
          go_roundw
          case rel =>
            refine ⟨k + 1, by omega, by go_num, by rw [HN.out]; exact OwnV.snoc hown3, ?_, HU2.out.grownOwn hg3 (fun j hj => by have := (HO2.out.lt j hj).1; omega)⟩
            exact (hg3.block _ (by simp; omega) (fun e => by have := (HO2.out.lt _ e.symm).1; omega)).trans HP2.out
          case measure => simp [intOf]; omega
        · have hg : k % 4 < 2 := by simpa [isData] using hs
          have HG : Hid (grp k = 0) := if_pos hg
          clear hs HP HU HO hg
          go_wp2_with (first | (go_at_call 19; refine (group_any k _ (by omega)).mono ?_; rintro e w' ⟨rfl, rfl⟩; rw [HG.out]) | (at_builtin; refine wpList_append_ints _ rfl (.tmp 34) (.tmp 36) _ rfl (w.heap.size + 1) 3 i0 _ Try.underlying23 hi0 hz0 hz1 hz2 rfl _ (dl true k).length (vals (dl true k)) rfl HO2.out (wr.heap.size + 1) (some ⟨wr.heap.size, 0, none⟩) 1 1 [(k : Int)] rfl HI.out (by have := HL.out; simp only [maxLen]; omega) (by have := HL.out; omega) (by simp; omega) ?_; intro v3 w3 hown3 hg3 _))
          go_roundw
          case rel =>
            refine ⟨k + 1, by omega, by go_num, by rw [HN.out]; exact OwnV.snoc hown3, ?_, HU2.out.grownOwn hg3 (fun j hj => by have := (HO2.out.lt j hj).1; omega)⟩
            exact (hg3.block _ (by simp; omega) (fun e => by have := (HO2.out.lt _ e.symm).1; omega)).trans HP2.out
          case measure => simp [intOf]; omega
    · obtain rfl : k = m := by omega
      have HM : Hid ((n : Int) - 1 = (k : Int) + 2) := by show _ = _; omega
      have hs := HO.out.sl
      obtain ⟨va, vc, hv, _⟩ := hs
      subst hv
      have hs3 : ((n : Int) - 3) = (k : Int) := e1
      cases s
      · have HF := Lib.hid (of_end false n w wr _ _ (.slice (some ⟨wr.heap.size, 0, none⟩) 2 2) (.cells #[.int .i64 (k : Int), .int .i64 ((n : Int) - 1)] 3) HO.out HP.out HU.out (by unfold parL; rw [if_neg (by decide), hs3]; exact own_two wr _ _))
        have b1 := Lib.hid (block_alloc HP.out (.cells #[.int .i64 (k : Int), .int .i64 ((n : Int) - 1)] 3))
        have c0 := cell_of b1.out 0
        have c1 := cell_of b1.out 1
        have f0 := free_of b1.out 0
        have f1 := free_of b1.out 1
        go_wp2
        exact bodyPost_ret_by (ret_plan _ w.heap.size _ _ true _ HF.out.1 rfl rfl) rfl ⟨_, _, rfl, HF.out.2⟩
      · have HF := Lib.hid (of_end true n w wr _ _ (.slice (some ⟨wr.heap.size, 0, none⟩) 1 1) (.cells #[.int .i64 (k : Int)] 3) HO.out HP.out HU.out (by unfold parL; rw [if_pos rfl, hs3]; exact own_one wr _))
        have b1 := Lib.hid (block_alloc HP.out (.cells #[.int .i64 (k : Int)] 3))
        have c0 := cell_of b1.out 0
        have c1 := cell_of b1.out 1
        have f0 := free_of b1.out 0
        have f1 := free_of b1.out 1
        go_wp2
        exact bodyPost_ret_by (ret_plan _ w.heap.size _ _ true _ HF.out.1 rfl rfl) rfl ⟨_, _, rfl, HF.out.2⟩
end Go.Proofs.Ytkjajmhanhbkdaa
