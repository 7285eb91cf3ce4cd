/- The pair, the group of a page; two slices of int compared; a slice of int of the call's own; The plan of a block: parity.Of, the document's; The plan of a block, bad numbers too; the document's plan; the members of a group. -/
import Derived.Test.YtnimgkijodfjkaaRows
import Derived.Test.YtnimgkijodfjkaaKApp
import Derived.Test.YtnimgkijodfjkaaKIp
import Derived.WalkKit
import Derived.Lib.Hide
import Derived.WalkSpells
import Derived.WalkLawsBesides
import Derived.BigQuiet
import Derived.BigRegion
import Derived.Deep.OwnRows
import Derived.Deep.QuietTactic
import Derived.OwnWalk
namespace Go.Proofs.Ytnimgkijodfjkaa.Pr
open Go.RowKit

set_option maxRecDepth 100000 in
theorem pair_neg (p : Int) (w : World) (h : p < 0) :
    Calls Try.prog 42 #[.int .i64 p] w fun e w' => e = .returned (.tuple #[.int .i64 0, .bool false]) ∧ w = w' := by
  go_enter Try.func42, Try.ntmps42
  go_wp2
  go_ret2
  exact ⟨rfl, rfl⟩
set_option maxRecDepth 100000 in
theorem pair_low (p : Nat) (w : World) (hp : Hid (p ≤ 9223372036854775807)) (h : p % 4 < 2) :
    Calls Try.prog 42 #[.int .i64 (p : Int)] w fun e w' => e = .returned (.tuple #[.int .i64 ((p + 2 : Nat) : Int), .bool false]) ∧ w = w' := by
  have h2 : (p : Int) % 4 < 2 := by omega
  have hw : IntKind.i64.wrap ((p : Int) + 2) = (p : Int) + 2 := by have := hp.out; rw [IntKind.wrap_i64]; omega
  clear h
  go_enter Try.func42, Try.ntmps42
  go_wp2
  go_ret2
  exact ⟨rfl, rfl⟩
set_option maxRecDepth 100000 in
theorem pair_up (p : Nat) (w : World) (hp : Hid (p ≤ 9223372036854775807)) (h : ¬ p % 4 < 2) :
    Calls Try.prog 42 #[.int .i64 (p : Int)] w fun e w' => e = .returned (.tuple #[.int .i64 ((p - 2 : Nat) : Int), .bool true]) ∧ w = w' := by
  have h2 : ¬ (p : Int) % 4 < 2 := by omega
  have h3 : ((p - 2 : Nat) : Int) = (p : Int) - 2 := by omega
  have hw : IntKind.i64.wrap ((p : Int) - 2) = (p : Int) - 2 := by have := hp.out; rw [IntKind.wrap_i64]; omega
  have H3 := Lib.hid h3
  clear h3 h
  go_enter Try.func42, Try.ntmps42
  go_wp2
  go_ret2
  rw [H3.out]
  exact ⟨rfl, rfl⟩

/-- the group of a page -/
def grp (p : Nat) : Int := if p % 4 < 2 then 0 else 1
set_option maxRecDepth 100000 in
theorem group_neg (p : Int) (w : World) (h : p < 0) :
    Calls Try.prog 31 #[.int .i64 p] w fun e w' => e = .returned (.int .i64 0) ∧ w = w' := by
  go_enter Try.func31, Try.ntmps31
  go_wp2_with (go_at_call 42; refine (pair_neg _ _ h).mono ?_; rintro e w' ⟨rfl, rfl⟩)
  go_ret
  exact ⟨rfl, rfl⟩
set_option maxRecDepth 100000 in
theorem group_any (p : Nat) (w : World) (hp : p ≤ 9223372036854775807) :
    Calls Try.prog 31 #[.int .i64 (p : Int)] w fun e w' => e = .returned (.int .i64 (grp p)) ∧ w = w' := by
  have HP := Lib.hid hp
  clear hp
  by_cases h : p % 4 < 2
  · rw [show grp p = 0 from if_pos h]
    have H := Lib.hid h
    clear h
    go_enter Try.func31, Try.ntmps31
    go_wp2_with (go_at_call 42; refine (pair_low p _ HP H.out).mono ?_; rintro e w' ⟨rfl, rfl⟩)
    go_ret
    exact ⟨rfl, rfl⟩
  · rw [show grp p = 1 from if_neg h]
    have H := Lib.hid h
    clear h
    go_enter Try.func31, Try.ntmps31
    go_wp2_with (go_at_call 42; refine (pair_up p _ HP H.out).mono ?_; rintro e w' ⟨rfl, rfl⟩)
    go_ret
    exact ⟨rfl, rfl⟩
set_option maxRecDepth 100000 in
theorem lower_any (p : Nat) (w : World) :
    Calls Try.prog 24 #[.int .i64 (p : Int)] w fun e w' => e = .returned (.bool (decide (p % 4 < 2))) ∧ w = w' := by
  by_cases h : p % 4 < 2
  · rw [decide_eq_true h]
    by_cases h0 : p % 4 = 0
    · have h1 : ((p : Int) % 4 == 0) = true := beq_iff_eq.2 (by omega)
      clear h h0
      go_enter Try.func24, Try.ntmps24
      go_wp2
      go_ret
      exact ⟨rfl, rfl⟩
    · have h1 : ((p : Int) % 4 == 0) = false := beq_eq_false_iff_ne.2 (by omega)
      have h2 : ((p : Int) % 4 == 1) = true := beq_iff_eq.2 (by omega)
      clear h h0
      go_enter Try.func24, Try.ntmps24
      go_wp2
      go_ret
      exact ⟨rfl, rfl⟩
  · rw [decide_eq_false h]
    have h1 : ((p : Int) % 4 == 0) = false := beq_eq_false_iff_ne.2 (by omega)
    have h2 : ((p : Int) % 4 == 1) = false := beq_eq_false_iff_ne.2 (by omega)
    clear h
    go_enter Try.func24, Try.ntmps24
    go_wp2
    go_ret
    exact ⟨rfl, rfl⟩

theorem Upd.grownOwn {a b c : World} {v : Value} (h : Upd noBlock a b) (g : b.grownBy c v.ownBlock) (hv : ∀ k, v.ownBlock = some k → a.heap.size ≤ k) : Upd noBlock a c :=
  ⟨g.os.trans h.os, g.tape.trans h.tape, g.output.trans h.output, Nat.le_trans h.size g.size, fun i hi hn => (g.block i (Nat.lt_of_lt_of_le hi h.size) (fun e => by have := hv i e.symm; omega)).trans (h.block i hi hn)⟩
/-- a slice of int, new since B, that reads as xs -/
def OwnV (w : World) (B : Nat) (v : Value) (xs : List Int) : Prop :=
  w.ownsRow B 3 1 v xs.length (vals xs)
theorem OwnV.sl {w : World} {B : Nat} {v : Value} {xs : List Int} (h : OwnV w B v xs) :
    ∃ a c, v = .slice a xs.length c ∧ Ints w w.heap.size a xs.length xs ∧ xs.length ≤ maxLen ∧ (∀ g, a.map Addr.block = some g → B ≤ g ∧ g < w.heap.size ∧ v.ownBlock = some g ∧ ∃ cs, w.heap[g]? = some (.cells cs 3 (0, 0))) := own_ints h
theorem OwnV.upd {w w' : World} {B : Nat} {v : Value} {xs : List Int} (h : OwnV w B v xs) {R : Nat → Prop} (hu : Upd R w w') (hR : ∀ g, v.ownBlock = some g → ¬ R g) : OwnV w' B v xs := by
  obtain ⟨hl, h⟩ := h
  refine ⟨hl, ?_⟩
  rcases h with ⟨h1, h2⟩ | ⟨g, cap, cur, rfl, hb, hg, r⟩
  · exact .inl ⟨h1, h2⟩
  · exact .inr ⟨g, cap, cur, rfl, hb, (hu.block g (lt_of_block hg) (hR g rfl)).trans hg, r⟩
theorem OwnV.grow {w w' : World} {B : Nat} {v : Value} {xs : List Int} (h : OwnV w B v xs) (hu : Upd noBlock w w') : OwnV w' B v xs := h.upd hu fun _ _ h => h
theorem OwnV.more {w : World} {B B' : Nat} {v : Value} {xs : List Int} (h : OwnV w B v xs) (hB : B' ≤ B) : OwnV w B' v xs := by
  obtain ⟨hl, h⟩ := h
  refine ⟨hl, ?_⟩
  rcases h with ⟨h1, h2⟩ | ⟨g, cap, cur, rfl, hb, hg, r⟩
  · exact .inl ⟨h1, h2⟩
  · exact .inr ⟨g, cap, cur, rfl, Nat.le_trans hB hb, hg, r⟩
theorem OwnV.nil (w : World) (B : Nat) : OwnV w B (.slice none 0 0) [] := World.ownsRow_nil _ _ _ _
/-- one element more -/
theorem OwnV.snoc {w : World} {B : Nat} {v : Value} {xs : List Int} {x : Int} (h : w.ownsRow B 3 1 v (xs.length + 1) (vals xs ++ vals [x])) : OwnV w B v (xs ++ [x]) := by
  unfold OwnV
  have e : (xs ++ [x]).length = xs.length + 1 := by simp
  have e2 : vals (xs ++ [x]) = vals xs ++ vals [x] := by simp [vals]
  rw [e, e2]; exact h
theorem ints_new (w : World) (x : Int) : Ints (w.alloc (.cells #[.int .i64 x] 3)) (w.heap.size + 1) (some ⟨w.heap.size, 0, none⟩) 1 [x] :=
  ⟨rfl, fun _ => ⟨w.heap.size, 0, rfl, by omega, fun j hj => by
    obtain rfl : j = 0 := by omega
    rw [cell_of (heap_alloc_new w _)]; rfl⟩⟩
theorem intParts7 : ∃ i0, Try.prog.info? 3 = some i0 ∧ i0.zero = some (.int .i64 0) ∧ i0.size = 1 ∧ i0.bytes = 8 := by
  have intCells : (Try.prog.info? 3).map (fun i => (i.zero, i.size, i.bytes)) = some (some (.int .i64 0), 1, 8) := by kernel_rfl
  obtain ⟨i0, h1, h2⟩ := Option.map_eq_some_iff.1 intCells
  simp only [Prod.mk.injEq] at h2
  exact ⟨i0, h1, h2.1, h2.2.1, h2.2.2⟩
end Go.Proofs.Ytnimgkijodfjkaa.Pr
namespace Go.Proofs.Ytnimgkijodfjkaa.Pr
open Go.RowKit

/-- is a page of data? -/
def isData (s : Bool) (p : Nat) : Bool := !s || decide (p % 4 < 2)
/-- the data pages below k -/
def dl (s : Bool) : Nat → List Int
  | 0 => []
  | k + 1 => dl s k ++ (if isData s k = true then [(k : Int)] else [])
theorem dl_len (s : Bool) (k : Nat) : (dl s k).length ≤ k := by
  induction k with
  | zero => exact Nat.le_refl _
  | succ k ih =>
    unfold dl
    rw [List.length_append]
    split
    · simp; omega
    · simp; omega
theorem dl_yes {s : Bool} {k : Nat} (h : isData s k = true) : dl s (k + 1) = dl s k ++ [(k : Int)] := by
  show dl s k ++ _ = _
  rw [if_pos h]
theorem dl_no {s : Bool} {k : Nat} (h : isData s k = false) : dl s (k + 1) = dl s k := by
  show dl s k ++ _ = _
  rw [h, if_neg (by decide), List.append_nil]
/-- a row of one or two -/
theorem own_one (w : World) (x : Int) : OwnV (w.alloc (.cells #[.int .i64 x] 3)) w.heap.size (.slice (some ⟨w.heap.size, 0, none⟩) 1 1) [x] :=
  ⟨rfl, .inr ⟨w.heap.size, 1, #[.int .i64 x], rfl, Nat.le_refl _, heap_alloc_new w _, Nat.le_refl _, by show _ ≤ maxLen; unfold maxLen; simp, rfl, rfl⟩⟩
theorem own_two (w : World) (x y : Int) : OwnV (w.alloc (.cells #[.int .i64 x, .int .i64 y] 3)) w.heap.size (.slice (some ⟨w.heap.size, 0, none⟩) 2 2) [x, y] :=
  ⟨rfl, .inr ⟨w.heap.size, 2, #[.int .i64 x, .int .i64 y], rfl, Nat.le_refl _, heap_alloc_new w _, Nat.le_refl _, by show _ ≤ maxLen; unfold maxLen; simp, rfl, rfl⟩⟩
def parL (s : Bool) (n : Nat) : List Int := if s = true then [(n : Int) - 3] else [(n : Int) - 3, (n : Int) - 1]

theorem ret_plan (w : World) (b : Nat) (v1 v2 : Value) (x : Bool) (tmps : Array Value) (hb : w.heap[b]? = some (.cells #[v1, v2] 56 (0, 0))) (h4 : tmps.getD 4 undef = .pointer (some ⟨b, 0, none⟩)) (h5 : tmps.getD 5 undef = .bool x) :
    (results Try.f21 tmps).run Try.prog w = .ok (.tuple #[.agg #[v1, v2], .bool x]) w := by
  have c0 : w.cell? ⟨b, 0, none⟩ = some v1 := cell_of hb 0
  have c1 : w.cell? ⟨b, 1, none⟩ = some v2 := cell_of hb 1
  rw [results_cell_tmp rfl, h4, h5]
  simp [go_sem, c0, c1]
/-- behind the last store -/
theorem of_end (s : Bool) (n : Nat) (w wr : World) (D : List Int) (v v2 : Value) (O : Obj) (hO : OwnV wr (w.heap.size + 1) v D) (hP : wr.heap[w.heap.size]? = some (.cells #[.slice none 0 0, .slice none 0 0] 56 (0, 0)))
    (hU : Upd noBlock w wr) (h2 : OwnV (wr.alloc O) wr.heap.size v2 (parL s n)) :
    (((wr.alloc O).setCell ⟨w.heap.size, 0, none⟩ v).setCell ⟨w.heap.size, 1, none⟩ v2).heap[w.heap.size]? = some (.cells #[v, v2] 56 (0, 0)) ∧
    OwnV (((wr.alloc O).setCell ⟨w.heap.size, 0, none⟩ v).setCell ⟨w.heap.size, 1, none⟩ v2) w.heap.size v D ∧
    OwnV (((wr.alloc O).setCell ⟨w.heap.size, 0, none⟩ v).setCell ⟨w.heap.size, 1, none⟩ v2) w.heap.size v2 (parL s n) ∧
    Upd noBlock w (((wr.alloc O).setCell ⟨w.heap.size, 0, none⟩ v).setCell ⟨w.heap.size, 1, none⟩ v2) := by
  have u1 : Upd (oneBlock w.heap.size) (wr.alloc O) (((wr.alloc O).setCell ⟨w.heap.size, 0, none⟩ v).setCell ⟨w.heap.size, 1, none⟩ v2) := ((Upd.refl (oneBlock w.heap.size) (wr.alloc O)).setCell (p := ⟨w.heap.size, 0, none⟩) (.inl rfl) v).setCell (p := ⟨w.heap.size, 1, none⟩) (.inl rfl) v2
  have hlt := lt_of_block hP
  refine ⟨block_set (block_set (block_alloc hP O) v) v2, ?_, ?_, ?_⟩
  · exact ((hO.grow ((Upd.refl noBlock wr).alloc O)).upd u1 (fun g hg e => by have := (hO.lt g hg).1; unfold oneBlock at e; omega)).more (by omega)
  · exact (h2.upd u1 (fun g hg e => by have := (h2.lt g hg).1; unfold oneBlock at e; omega)).more (by omega)
  · exact ((hU.alloc O).setCell (.inr (Nat.le_refl _)) _).setCell (.inr (Nat.le_refl _)) _

set_option maxRecDepth 100000 in
set_option maxHeartbeats 1600000 in
theorem of_in (n : Nat) (s : Bool) (w : World) (h1 : 4 ≤ n) (h2 : n ≤ 64) (h3 : n % 4 = 0) :
    Calls Try.prog 21 #[.int .i64 (n : Int), .bool s] w fun e w' =>
      ∃ v1 v2, e = .returned (.tuple #[.agg #[v1, v2], .bool true]) ∧ OwnV w' w.heap.size v1 (dl s (n - 3)) ∧ OwnV w' w.heap.size v2 (parL s n) ∧ Upd noBlock w w' := by
  obtain ⟨i0, hi0, hz0, hz1, hz2⟩ := intParts7
  have t3 : ((n : Int) % 4 != 0) = false := by rw [bne_eq_false_iff_eq]; omega
  obtain ⟨m, hm⟩ : ∃ m, m = n - 3 := ⟨_, rfl⟩
  have e1 : (n : Int) - 3 = (m : Int) := by omega
  rw [← hm]
  have HE := Lib.hid hm
  have hm64 : m ≤ 61 := by omega
  clear hm h3
  go_enter Try.func21, Try.ntmps21
  go_wp2
  obtain ⟨w0, hw0⟩ : ∃ w0, w0 = w.alloc (.cells #[.slice none 0 0, .slice none 0 0] 56) := ⟨_, rfl⟩
  have P0 : Hid (w0.heap[w.heap.size]? = some (.cells #[.slice none 0 0, .slice none 0 0] 56 (0, 0))) := by rw [hw0]; exact heap_alloc_new w _
  have U0 : Hid (Upd noBlock w w0) := by rw [hw0]; exact (Upd.refl _ _).alloc _
  have S0 : w.heap.size < w0.heap.size := lt_of_block P0.out
  rw [← hw0]
  clear hw0
  go_loopw [7, 24] (fun v i wr => ∃ k : Nat, k ≤ m ∧ i = .int .i64 (k : Int) ∧ Hid (OwnV wr (w.heap.size + 1) v (dl s k)) ∧ Hid (wr.heap[w.heap.size]? = some (.cells #[.slice none 0 0, .slice none 0 0] 56 (0, 0))) ∧ Hid (Upd noBlock w wr)) (fun _ i _ => m - (intOf i).toNat)
  case atStart => exact ⟨0, Nat.zero_le _, rfl, OwnV.nil _ _, P0, U0⟩
  case round =>
    clear P0 U0 S0
    obtain ⟨k, hk, rfl, HO, HP, HU⟩ := hrel
    by_cases h0 : k < m
    · have HL : Hid ((dl s k).length ≤ 61) := by have := dl_len s k; show _ ≤ 61; omega
      have hbase : w.heap.size + 1 ≤ wr.heap.size := lt_of_block HP.out
      have HO2 := Lib.hid (HO.out.grow ((Upd.refl noBlock wr).alloc (.cells #[.int .i64 (k : Int)] 3)))
      have HP2 := Lib.hid (block_alloc HP.out (.cells #[.int .i64 (k : Int)] 3))
      have HU2 := Lib.hid (HU.out.alloc (.cells #[.int .i64 (k : Int)] 3))
      have HI := Lib.hid (ints_new wr (k : Int))
      cases hs : isData s k
      · obtain ⟨rfl, hg⟩ : s = true ∧ ¬ k % 4 < 2 := by
          cases s <;> simp [isData] at hs
          exact ⟨rfl, by omega⟩
        have HG : Hid (grp k = 1) := if_neg hg
        have HN := Lib.hid (dl_no hs)
        clear hs hg HO2 HP2 HU2 HI
        go_wp2_with (go_at_call 31; refine (group_any k _ (by omega)).mono ?_; rintro e w' ⟨rfl, rfl⟩; rw [HG.out])
        go_roundw
        case rel => exact ⟨k + 1, by omega, by go_num, by rw [HN.out]; exact HO, HP, HU⟩
        case measure => simp [intOf]; omega
      · have HN := Lib.hid (dl_yes hs)
        cases s
        · clear hs HP HU HO
          go_wp2_with (at_builtin; refine wpList_append_ints _ rfl (.tmp 34) (.tmp 36) _ rfl (w.heap.size + 1) 3 i0 _ Try.underlying37 hi0 hz0 hz1 hz2 rfl _ (dl false k).length (vals (dl false k)) rfl HO2.out (wr.heap.size + 1) (some ⟨wr.heap.size, 0, none⟩) 1 1 [(k : Int)] rfl HI.out (by have := HL.out; simp only [maxLen]; omega) (by have := HL.out; omega) (by simp; omega) ?_; intro v3 w3 hown3 hg3 _)
          go_roundw
          case rel =>
            refine ⟨k + 1, by omega, by go_num, by rw [HN.out]; exact OwnV.snoc hown3, ?_, HU2.out.grownOwn hg3 (fun j hj => by have := (HO2.out.lt j hj).1; omega)⟩
            exact (hg3.block _ (by simp; omega) (fun e => by have := (HO2.out.lt _ e.symm).1; omega)).trans HP2.out
          case measure => simp [intOf]; omega
        · have hg : k % 4 < 2 := by simpa [isData] using hs
          have HG : Hid (grp k = 0) := if_pos hg
          clear hs HP HU HO hg
          go_wp2_with (first | (go_at_call 31; refine (group_any k _ (by omega)).mono ?_; rintro e w' ⟨rfl, rfl⟩; rw [HG.out]) | (at_builtin; refine wpList_append_ints _ rfl (.tmp 34) (.tmp 36) _ rfl (w.heap.size + 1) 3 i0 _ Try.underlying37 hi0 hz0 hz1 hz2 rfl _ (dl true k).length (vals (dl true k)) rfl HO2.out (wr.heap.size + 1) (some ⟨wr.heap.size, 0, none⟩) 1 1 [(k : Int)] rfl HI.out (by have := HL.out; simp only [maxLen]; omega) (by have := HL.out; omega) (by simp; omega) ?_; intro v3 w3 hown3 hg3 _))
          go_roundw
          case rel =>
            refine ⟨k + 1, by omega, by go_num, by rw [HN.out]; exact OwnV.snoc hown3, ?_, HU2.out.grownOwn hg3 (fun j hj => by have := (HO2.out.lt j hj).1; omega)⟩
            exact (hg3.block _ (by simp; omega) (fun e => by have := (HO2.out.lt _ e.symm).1; omega)).trans HP2.out
          case measure => simp [intOf]; omega
    · obtain rfl : k = m := by omega
      have HM : Hid ((n : Int) - 1 = (k : Int) + 2) := by show _ = _; omega
      have hs := HO.out.sl
      obtain ⟨va, vc, hv, _⟩ := hs
      subst hv
      have hs3 : ((n : Int) - 3) = (k : Int) := e1
      cases s
      · have HF := Lib.hid (of_end false n w wr _ _ (.slice (some ⟨wr.heap.size, 0, none⟩) 2 2) (.cells #[.int .i64 (k : Int), .int .i64 ((n : Int) - 1)] 3) HO.out HP.out HU.out (by unfold parL; rw [if_neg (by decide), hs3]; exact own_two wr _ _))
        have b1 := Lib.hid (block_alloc HP.out (.cells #[.int .i64 (k : Int), .int .i64 ((n : Int) - 1)] 3))
        have c0 := cell_of b1.out 0
        have c1 := cell_of b1.out 1
        have f0 := free_of b1.out 0
        have f1 := free_of b1.out 1
        go_wp2
        exact bodyPost_ret_by (ret_plan _ w.heap.size _ _ true _ HF.out.1 rfl rfl) rfl ⟨_, _, rfl, HF.out.2⟩
      · have HF := Lib.hid (of_end true n w wr _ _ (.slice (some ⟨wr.heap.size, 0, none⟩) 1 1) (.cells #[.int .i64 (k : Int)] 3) HO.out HP.out HU.out (by unfold parL; rw [if_pos rfl, hs3]; exact own_one wr _))
        have b1 := Lib.hid (block_alloc HP.out (.cells #[.int .i64 (k : Int)] 3))
        have c0 := cell_of b1.out 0
        have c1 := cell_of b1.out 1
        have f0 := free_of b1.out 0
        have f1 := free_of b1.out 1
        go_wp2
        exact bodyPost_ret_by (ret_plan _ w.heap.size _ _ true _ HF.out.1 rfl rfl) rfl ⟨_, _, rfl, HF.out.2⟩
end Go.Proofs.Ytnimgkijodfjkaa.Pr
namespace Go.Proofs.Ytnimgkijodfjkaa.Pr
open Go.RowKit

def okX (x : Int) : Bool := decide (4 ≤ x) && decide (x ≤ 64) && (x % 4 == 0)
def DL (x : Int) (s : Bool) : List Int := if okX x = true then dl s (x.toNat - 3) else []
def PL (x : Int) (s : Bool) : List Int := if okX x = true then parL s x.toNat else []
theorem okX_yes {x : Int} (h : okX x = true) : ∃ n : Nat, x = n ∧ 4 ≤ n ∧ n ≤ 64 ∧ n % 4 = 0 := by
  unfold okX at h
  simp only [Bool.and_eq_true, decide_eq_true_eq, beq_iff_eq] at h
  exact ⟨x.toNat, by omega, by omega, by omega, by omega⟩
theorem okX_of (n : Nat) (h1 : 4 ≤ n) (h2 : n ≤ 64) (h3 : n % 4 = 0) : okX (n : Int) = true := by
  unfold okX
  simp only [Bool.and_eq_true, decide_eq_true_eq, beq_iff_eq]
  omega
theorem okX_no {x : Int} (h : okX x = false) : x < 4 ∨ (4 ≤ x ∧ 64 < x) ∨ (4 ≤ x ∧ x ≤ 64 ∧ x % 4 ≠ 0) := by
  unfold okX at h
  by_cases h1 : x < 4
  · exact .inl h1
  · by_cases h2 : 64 < x
    · exact .inr (.inl ⟨by omega, h2⟩)
    · refine .inr (.inr ⟨by omega, by omega, fun e => ?_⟩)
      rw [decide_eq_true (by omega), decide_eq_true (by omega), e] at h
      cases h
set_option maxRecDepth 100000 in
set_option maxHeartbeats 1600000 in
theorem of_bad (x : Int) (s : Bool) (w : World) (h : x < 4 ∨ (4 ≤ x ∧ 64 < x) ∨ (4 ≤ x ∧ x ≤ 64 ∧ x % 4 ≠ 0)) :
    Calls Try.prog 21 #[.int .i64 x, .bool s] w fun e w' =>
      e = .returned (.tuple #[.agg #[.slice none 0 0, .slice none 0 0], .bool false]) ∧ Upd noBlock w w' := by
  have HF := Lib.hid (heap_alloc_new w (.cells #[.slice none 0 0, .slice none 0 0] 56))
  have HU := Lib.hid ((Upd.refl noBlock w).alloc (.cells #[.slice none 0 0, .slice none 0 0] 56))
  rcases h with h | ⟨h1, h2⟩ | ⟨h1, h2, h3⟩
  · go_enter Try.func21, Try.ntmps21
    go_wp2
    exact bodyPost_ret_by (ret_plan _ w.heap.size _ _ false _ HF.out rfl rfl) rfl ⟨rfl, HU.out⟩
  · go_enter Try.func21, Try.ntmps21
    go_wp2
    exact bodyPost_ret_by (ret_plan _ w.heap.size _ _ false _ HF.out rfl rfl) rfl ⟨rfl, HU.out⟩
  · have t3 : (x % 4 != 0) = true := by rw [bne_iff_ne]; omega
    go_enter Try.func21, Try.ntmps21
    go_wp2
    exact bodyPost_ret_by (ret_plan _ w.heap.size _ _ false _ HF.out rfl rfl) rfl ⟨rfl, HU.out⟩
theorem of_any (x : Int) (s : Bool) (w : World) :
    Calls Try.prog 21 #[.int .i64 x, .bool s] w fun e w' =>
      ∃ v1 v2, e = .returned (.tuple #[.agg #[v1, v2], .bool (okX x)]) ∧ OwnV w' w.heap.size v1 (DL x s) ∧ OwnV w' w.heap.size v2 (PL x s) ∧ Upd noBlock w w' := by
  unfold DL PL
  cases h : okX x
  · simp only [Bool.false_eq_true, if_false]
    refine (of_bad x s w (okX_no h)).mono fun e w' ⟨he, hu⟩ => ⟨_, _, he, OwnV.nil _ _, OwnV.nil _ _, hu⟩
  · simp only [if_true]
    obtain ⟨n, rfl, h1, h2, h3⟩ := okX_yes h
    exact of_in n s w h1 h2 h3

/-! the document's -/
/-- the last lower page below k -/
def lo : Nat → Int
  | 0 => -1
  | k + 1 => if k % 4 < 2 then (k : Int) else lo k
theorem lo_end (n : Nat) (h1 : 4 ≤ n) (h3 : n % 4 = 0) : lo n = (n : Int) - 3 := by
  obtain ⟨m, rfl⟩ : ∃ m, n = m + 4 := ⟨n - 4, by omega⟩
  show (if (m + 3) % 4 < 2 then _ else if (m + 2) % 4 < 2 then _ else if (m + 1) % 4 < 2 then ((m + 1 : Nat) : Int) else _) = _
  rw [if_neg (by omega), if_neg (by omega), if_pos (by omega)]
  omega
theorem lo_yes {k : Nat} (h : k % 4 < 2) : lo (k + 1) = (k : Int) := if_pos h
theorem lo_no {k : Nat} (h : ¬ k % 4 < 2) : lo (k + 1) = lo k := if_neg h

set_option maxRecDepth 100000 in
set_option maxHeartbeats 1600000 in
theorem ref_in (n : Nat) (s : Bool) (w : World) (h1 : 4 ≤ n) (h2 : n ≤ 64) (h3 : n % 4 = 0) :
    Calls Try.prog 15 #[.int .i64 (n : Int), .bool s] w fun e w' =>
      ∃ v1 v2, e = .returned (.tuple #[v1, v2, .bool true]) ∧ OwnV w' w.heap.size v1 (dl s (n - 3)) ∧ OwnV w' w.heap.size v2 (parL s n) ∧ Upd noBlock w w' := by
  obtain ⟨i0, hi0, hz0, hz1, hz2⟩ := intParts7
  have t3 : ((n : Int) % 4 != 0) = false := by rw [bne_eq_false_iff_eq]; omega
  obtain ⟨m, hm⟩ : ∃ m, m = n - 3 := ⟨_, rfl⟩
  have hm64 : m ≤ 61 := by omega
  have HLO := Lib.hid (lo_end n h1 h3)
  have HE : Hid ((n : Int) - 3 = (m : Int)) := by show _ = _; omega
  rw [← hm]
  clear hm h3
  go_enter Try.func15, Try.ntmps15
  go_wp2
  go_loopw [7, 9] (fun l i wr => ∃ k : Nat, k ≤ n ∧ i = .int .i64 (k : Int) ∧ Hid (l = .int .i64 (lo k)) ∧ Hid (w = wr)) (fun _ i _ => n - (intOf i).toNat)
  case atStart => exact ⟨0, Nat.zero_le _, rfl, rfl, rfl⟩
  case round =>
    obtain ⟨k, hk, rfl, HL, HW⟩ := hrel
    obtain rfl := HW.out
    by_cases h0 : k < n
    · by_cases hl : k % 4 < 2
      · have HN := Lib.hid (lo_yes hl)
        have HD := Lib.hid (decide_eq_true hl)
        clear hl
        go_wp2_with (go_at_call 24; refine (lower_any k _).mono ?_; rintro e w' ⟨rfl, rfl⟩; rw [HD.out])
        go_roundw
        case rel => exact ⟨k + 1, by omega, by go_num, by rw [HN.out]; rfl, (by first | exact rfl | exact trivial)⟩
        case measure => simp [intOf]; omega
      · have HN := Lib.hid (lo_no hl)
        have HD := Lib.hid (decide_eq_false hl)
        clear hl
        go_wp2_with (go_at_call 24; refine (lower_any k _).mono ?_; rintro e w' ⟨rfl, rfl⟩; rw [HD.out])
        go_roundw
        case rel => exact ⟨k + 1, by omega, by go_num, by rw [HN.out]; exact HL.out, (by first | exact rfl | exact trivial)⟩
        case measure => simp [intOf]; omega
    · obtain rfl : k = n := by omega
      have hl := HL.out
      rw [HLO.out, HE.out] at hl
      subst hl
      clear HL HW HLO
      go_wp2
      go_loopw [10, 11] (fun v i wr => ∃ j : Nat, j ≤ k ∧ i = .int .i64 (j : Int) ∧ Hid (OwnV wr w.heap.size v (dl s (min j m))) ∧ Hid (Upd noBlock w wr)) (fun _ i _ => k - (intOf i).toNat)
      case atStart => exact ⟨0, Nat.zero_le _, rfl, by rw [Nat.zero_min]; exact OwnV.nil _ _, Upd.refl _ _⟩
      case round =>
        obtain ⟨j, hj, rfl, HO, HU⟩ := hrel
        by_cases j0 : j < k
        · by_cases jm : j < m
          · rw [Nat.min_eq_left (by omega)] at HO
            have HL : Hid ((dl s j).length ≤ 61) := by have := dl_len s j; show _ ≤ 61; omega
            have HO2 := Lib.hid (HO.out.grow ((Upd.refl noBlock wr).alloc (.cells #[.int .i64 (j : Int)] 3)))
            have HU2 := Lib.hid (HU.out.alloc (.cells #[.int .i64 (j : Int)] 3))
            have HI := Lib.hid (ints_new wr (j : Int))
            have HMN : Hid (min (j + 1) m = j + 1) := Nat.min_eq_left (by omega)
            have hbase := HU.out.size
            have hdm : decide ((j : Int) < (m : Int)) = true := decide_eq_true (by omega)
            cases hs : isData s j
            · obtain ⟨rfl, hg⟩ : s = true ∧ ¬ j % 4 < 2 := by
                cases s <;> simp [isData] at hs
                exact ⟨rfl, by omega⟩
              have HD := Lib.hid (decide_eq_false hg)
              have HN := Lib.hid (dl_no hs)
              clear hs hg HO2 HU2 HI
              go_wp2_with (go_at_call 24; refine (lower_any j _).mono ?_; rintro e w' ⟨rfl, rfl⟩; rw [HD.out])
              go_roundw
              case rel => exact ⟨j + 1, by omega, by go_num, by rw [HMN.out, HN.out]; exact HO, HU⟩
              case measure => simp [intOf]; omega
            · have HN := Lib.hid (dl_yes hs)
              have hor : (decide (j % 4 < 2) || !s) = true := by rw [Bool.or_comm]; exact hs
              obtain ⟨d, hd⟩ : ∃ d, d = decide (j % 4 < 2) := ⟨_, rfl⟩
              have HD := Lib.hid hd.symm
              rw [← hd] at hor
              clear hs HU HO hd
              cases d
              · have hsf : s = false := by simpa using hor
                subst hsf
                clear hor
                go_wp2_with (first | (go_at_call 24; refine (lower_any j _).mono ?_; rintro e w' ⟨rfl, rfl⟩; rw [HD.out]) | (at_builtin; refine wpList_append_ints _ rfl (.tmp 49) (.tmp 51) _ rfl w.heap.size 3 i0 _ Try.underlying37 hi0 hz0 hz1 hz2 rfl _ (dl false j).length (vals (dl false j)) rfl HO2.out (wr.heap.size + 1) (some ⟨wr.heap.size, 0, none⟩) 1 1 [(j : Int)] rfl HI.out (by have := HL.out; simp only [maxLen]; omega) (by have := HL.out; omega) (by simp; omega) ?_; intro v3 w3 hown3 hg3 _))
                go_roundw
                case rel => exact ⟨j + 1, by omega, by go_num, by rw [HMN.out, HN.out]; exact OwnV.snoc hown3, HU2.out.grownOwn hg3 (fun i hi => (HO2.out.lt i hi).1)⟩
                case measure => simp [intOf]; omega
              · clear hor
                go_wp2_with (first | (go_at_call 24; refine (lower_any j _).mono ?_; rintro e w' ⟨rfl, rfl⟩; rw [HD.out]) | (at_builtin; refine wpList_append_ints _ rfl (.tmp 49) (.tmp 51) _ rfl w.heap.size 3 i0 _ Try.underlying37 hi0 hz0 hz1 hz2 rfl _ (dl s j).length (vals (dl s j)) rfl HO2.out (wr.heap.size + 1) (some ⟨wr.heap.size, 0, none⟩) 1 1 [(j : Int)] rfl HI.out (by have := HL.out; simp only [maxLen]; omega) (by have := HL.out; omega) (by simp; omega) ?_; intro v3 w3 hown3 hg3 _))
                go_roundw
                case rel => exact ⟨j + 1, by omega, by go_num, by rw [HMN.out, HN.out]; exact OwnV.snoc hown3, HU2.out.grownOwn hg3 (fun i hi => (HO2.out.lt i hi).1)⟩
                case measure => simp [intOf]; omega
          · have HMN : Hid (min (j + 1) m = min j m) := by show _ = _; omega
            have hdm : decide ((j : Int) < (m : Int)) = false := decide_eq_false (by omega)
            go_wp2_with fail
            go_roundw
            case rel => exact ⟨j + 1, by omega, by go_num, by rw [HMN.out]; exact HO, HU⟩
            case measure => simp [intOf]; omega
        · obtain rfl : j = k := by omega
          have HMN : Hid (min j m = m) := by have := HE.out; show _ = _; omega
          rw [HMN.out] at HO
          cases s
          · have H2 : Hid (OwnV (wr.alloc (.cells #[.int .i64 (m : Int), .int .i64 ((j : Int) - 1)] 3)) wr.heap.size (.slice (some ⟨wr.heap.size, 0, none⟩) 2 2) (parL false j)) := by
              unfold parL; rw [if_neg (by decide), HE.out]; exact own_two wr _ _
            have hsz := HU.out.size
            go_wp2_with fail
            go_ret3
            exact ⟨_, _, rfl, HO.out.grow ((Upd.refl noBlock wr).alloc _), H2.out.more hsz, HU.out.alloc _⟩
          · have H2 : Hid (OwnV (wr.alloc (.cells #[.int .i64 (m : Int)] 3)) wr.heap.size (.slice (some ⟨wr.heap.size, 0, none⟩) 1 1) (parL true j)) := by
              unfold parL; rw [if_pos rfl, HE.out]; exact own_one wr _
            have hsz := HU.out.size
            go_wp2_with fail
            go_ret3
            exact ⟨_, _, rfl, HO.out.grow ((Upd.refl noBlock wr).alloc _), H2.out.more hsz, HU.out.alloc _⟩
set_option maxRecDepth 100000 in
set_option maxHeartbeats 1600000 in
theorem ref_bad (x : Int) (s : Bool) (w : World) (h : x < 4 ∨ (4 ≤ x ∧ 64 < x) ∨ (4 ≤ x ∧ x ≤ 64 ∧ x % 4 ≠ 0)) :
    Calls Try.prog 15 #[.int .i64 x, .bool s] w fun e w' =>
      e = .returned (.tuple #[.slice none 0 0, .slice none 0 0, .bool false]) ∧ Upd noBlock w w' := by
  rcases h with h | ⟨h1, h2⟩ | ⟨h1, h2, h3⟩
  · go_enter Try.func15, Try.ntmps15
    go_wp2
    go_ret3
    exact ⟨rfl, Upd.refl _ _⟩
  · go_enter Try.func15, Try.ntmps15
    go_wp2
    go_ret3
    exact ⟨rfl, Upd.refl _ _⟩
  · have t3 : (x % 4 != 0) = true := by rw [bne_iff_ne]; omega
    go_enter Try.func15, Try.ntmps15
    go_wp2
    go_ret3
    exact ⟨rfl, Upd.refl _ _⟩
theorem ref_any (x : Int) (s : Bool) (w : World) :
    Calls Try.prog 15 #[.int .i64 x, .bool s] w fun e w' =>
      ∃ v1 v2, e = .returned (.tuple #[v1, v2, .bool (okX x)]) ∧ OwnV w' w.heap.size v1 (DL x s) ∧ OwnV w' w.heap.size v2 (PL x s) ∧ Upd noBlock w w' := by
  unfold DL PL
  cases h : okX x
  · simp only [Bool.false_eq_true, if_false]
    refine (ref_bad x s w (okX_no h)).mono fun e w' ⟨he, hu⟩ => ⟨_, _, he, OwnV.nil _ _, OwnV.nil _ _, hu⟩
  · simp only [if_true]
    obtain ⟨n, rfl, h1, h2, h3⟩ := okX_yes h
    exact ref_in n s w h1 h2 h3
end Go.Proofs.Ytnimgkijodfjkaa.Pr
