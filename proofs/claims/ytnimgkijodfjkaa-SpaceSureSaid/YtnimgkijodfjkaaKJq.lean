/- pack's Pages, as in wip/pack (XQa, XQb, XQf), without what needs a packer; how few pages it tells. -/
import Derived.Test.YtnimgkijodfjkaaKJf
import Derived.Test.YtnimgkijodfjkaaKZa
import Derived.Test.YtnimgkijodfjkaaKApp
import Derived.Deep.QuietTactic
import Derived.BigQuiet
import Derived.StillTailTactics
import Derived.IntWalk
import Derived.Deep.OwnRows
import Derived.Laws.ResultCell
namespace Go.Proofs.Ytnimgkijodfjkaa
open Go.RowKit
set_option maxRecDepth 20000 in
theorem fend_zero (g : Nat) (C : Array Value) (T : TypeId) (w : World) (hb : w.heap[g]? = some (.cells C T (0, 0))) (h1 : C[1]? = some (.int .i64 0)) :
    Calls Try.prog 36 #[.pointer (some ⟨g, 0, none⟩)] w fun e w' => e = .returned (.bool false) ∧ w = w' := by
  have c1 : w.cell? ⟨g, 1, none⟩ = some (.int .i64 0) := (cell_of hb 1).trans h1
  clear hb h1
  go_enter Try.func36, Try.ntmps36
  go_wp2
  go_ret
  exact ⟨rfl, rfl⟩
set_option maxRecDepth 20000 in
theorem fend_some (g h p : Nat) (C : Array Value) (T : TypeId) (w : World) (hb : w.heap[g]? = some (.cells C T (0, 0))) (h1 : C[1]? = some (.int .i64 (h : Int))) (h2 : C[2]? = some (.int .i64 (p : Int))) (h0 : 0 < h) (hp : p < 4611686018427387904) :
    Calls Try.prog 36 #[.pointer (some ⟨g, 0, none⟩)] w fun e w' => e = .returned (.bool true) ∧
      w'.heap[g]? = some (.cells ((C.setIfInBounds 1 (.int .i64 0)).setIfInBounds 2 (.int .i64 ((p : Int) + 1))) T (0, 0)) ∧ Upd (oneBlock g) w w' := by
  have c1 : w.cell? ⟨g, 1, none⟩ = some (.int .i64 (h : Int)) := (cell_of hb 1).trans h1
  have c2 : w.cell? ⟨g, 2, none⟩ = some (.int .i64 (p : Int)) := (cell_of hb 2).trans h2
  have f1 := free_of hb 1
  have f2 := free_of hb 2
  have eh : ((h : Int) == 0) = false := beq_eq_false_iff_ne.2 (by omega)
  have HB : Hid (∀ u v : Value, ((w.setCell ⟨g, 1, none⟩ u).setCell ⟨g, 2, none⟩ v).heap[g]? = some (.cells ((C.setIfInBounds 1 u).setIfInBounds 2 v) T (0, 0)) ∧ Upd (oneBlock g) w ((w.setCell ⟨g, 1, none⟩ u).setCell ⟨g, 2, none⟩ v)) := fun u v =>
    ⟨block_set (block_set hb u) v, ((Upd.refl (oneBlock g) w).setCell (p := ⟨g, 1, none⟩) (.inl rfl) u).setCell (p := ⟨g, 2, none⟩) (.inl rfl) v⟩
  clear hb h1 h2
  go_enter Try.func36, Try.ntmps36
  go_wp2
  go_ret
  exact ⟨rfl, HB.out _ _⟩
set_option maxRecDepth 20000 in
theorem fadd_fits (g s h n : Nat) (C : Array Value) (T : TypeId) (w : World) (hb : w.heap[g]? = some (.cells C T (0, 0))) (h0 : C[0]? = some (.int .i64 (s : Int))) (h1 : C[1]? = some (.int .i64 (h : Int))) (hs : s ≤ 2048) (hle : h + n ≤ s) :
    Calls Try.prog 35 #[.pointer (some ⟨g, 0, none⟩), .int .i64 (n : Int)] w fun e w' => e = .returned (.bool false) ∧
      w'.heap[g]? = some (.cells (C.setIfInBounds 1 (.int .i64 ((h + n : Nat) : Int))) T (0, 0)) ∧ Upd (oneBlock g) w w' := by
  have c0 : w.cell? ⟨g, 0, none⟩ = some (.int .i64 (s : Int)) := (cell_of hb 0).trans h0
  have c1 : w.cell? ⟨g, 1, none⟩ = some (.int .i64 (h : Int)) := (cell_of hb 1).trans h1
  have f1 := free_of hb 1
  have hw : IntKind.i64.wrap ((h : Int) + (n : Int)) = (h : Int) + (n : Int) := IntWalk.i64_in _ (by omega)
  have HB : Hid (∀ w1 : World, Upd noBlock w w1 → (w1.setCell ⟨g, 1, none⟩ (.int .i64 ((h : Int) + (n : Int)))).heap[g]? = some (.cells (C.setIfInBounds 1 (.int .i64 ((h + n : Nat) : Int))) T (0, 0)) ∧ Upd (oneBlock g) w (w1.setCell ⟨g, 1, none⟩ (.int .i64 ((h : Int) + (n : Int))))) := fun w1 hu =>
    ⟨by rw [Int.natCast_add]; exact block_set (hu.cells hb (fun h => h)) _, (show Upd (oneBlock g) w w1 from hu.mono fun _ _ h => h.elim).setCell (p := ⟨g, 1, none⟩) (.inl rfl) _⟩
  clear hb h1 h0
  go_enter Try.func35, Try.ntmps35
  go_wp2
  go_region
  all_goals
    go_wp2
    go_ret
    exact ⟨rfl, HB.out _ (Upd.refl noBlock w).drew⟩
set_option maxRecDepth 20000 in
theorem fadd_full (g s h p n : Nat) (C : Array Value) (T : TypeId) (w : World) (hb : w.heap[g]? = some (.cells C T (0, 0))) (h0 : C[0]? = some (.int .i64 (s : Int))) (h1 : C[1]? = some (.int .i64 (h : Int))) (h2 : C[2]? = some (.int .i64 (p : Int))) (hs : s ≤ 2048) (hh : h ≤ s) (hn : n ≤ s) (hle : s < h + n) (hp : p < 4611686018427387904) :
    Calls Try.prog 35 #[.pointer (some ⟨g, 0, none⟩), .int .i64 (n : Int)] w fun e w' => e = .returned (.bool true) ∧
      w'.heap[g]? = some (.cells (((C.setIfInBounds 1 (.int .i64 0)).setIfInBounds 2 (.int .i64 ((p : Int) + 1))).setIfInBounds 1 (.int .i64 (n : Int))) T (0, 0)) ∧ Upd (oneBlock g) w w' := by
  have c0 : w.cell? ⟨g, 0, none⟩ = some (.int .i64 (s : Int)) := (cell_of hb 0).trans h0
  have c1 : w.cell? ⟨g, 1, none⟩ = some (.int .i64 (h : Int)) := (cell_of hb 1).trans h1
  have hw : IntKind.i64.wrap ((h : Int) + (n : Int)) = (h : Int) + (n : Int) := IntWalk.i64_in _ (by omega)
  have HE := Lib.hid (fend_some g h p C T w.drew hb h1 h2 (by omega) hp)
  have hsz1 : 1 < C.size := (Array.getElem?_eq_some_iff.1 h1).1
  have HC : Hid (∀ w1 : World, w1.heap[g]? = some (.cells ((C.setIfInBounds 1 (.int .i64 0)).setIfInBounds 2 (.int .i64 ((p : Int) + 1))) T (0, 0)) → Upd (oneBlock g) w.drew w1 →
      (∃ u, w1.cell? ⟨g, 1, none⟩ = some u) ∧ w1.frozen? ⟨g, 1, none⟩ = false ∧ (w1.setCell ⟨g, 1, none⟩ (.int .i64 (n : Int))).heap[g]? = some (.cells (((C.setIfInBounds 1 (.int .i64 0)).setIfInBounds 2 (.int .i64 ((p : Int) + 1))).setIfInBounds 1 (.int .i64 (n : Int))) T (0, 0)) ∧ Upd (oneBlock g) w (w1.setCell ⟨g, 1, none⟩ (.int .i64 (n : Int)))) := fun w1 hb1 hu =>
    ⟨⟨.int .i64 0, by rw [cell_of hb1]; simp [hsz1]⟩, free_of hb1 1, block_set hb1 _, (((Upd.refl (oneBlock g) w).drew).trans hu).setCell (p := ⟨g, 1, none⟩) (.inl rfl) _⟩
  clear hb h0 h1 h2
  go_enter Try.func35, Try.ntmps35
  go_wp2
  go_region
  all_goals
    go_wp2_with (go_at_call 36; refine HE.out.mono ?_; rintro e w1 ⟨rfl, hb1, hu⟩; obtain ⟨⟨u, c1'⟩, f1, hb2, hu2⟩ := HC.out w1 hb1 hu; have HB2 := Lib.hid hb2; have HU2 := Lib.hid hu2; clear hb1 hu hb2 hu2)
    go_ret
    exact ⟨rfl, HB2.out, HU2.out⟩
def szQ (x : Int) : Nat := (min (max x 1) 2048).toNat
theorem szQ_le (x : Int) : 1 ≤ szQ x ∧ szQ x ≤ 2048 := by unfold szQ; omega
theorem szQ_eq (x : Int) : min (max x 1) 2048 = (szQ x : Int) := by unfold szQ; omega
theorem fillInfo : (Try.prog.info? 95).map (·.size) = some 3 := by kernel_rfl
set_option maxRecDepth 20000 in
theorem empty_any (x : Int) (w : World) (h1 : -9223372036854775808 ≤ x) (h2 : x ≤ 9223372036854775807) :
    Calls Try.prog 34 #[.int .i64 x] w fun e w' => e = .returned (.agg #[.int .i64 (szQ x : Int), .int .i64 0, .int .i64 0]) ∧ Upd noBlock w w' := by
  have hm := szQ_eq x
  generalize szQ x = s at *
  rcases (show x < 1 ∨ 2048 < x ∨ 1 ≤ x ∧ x ≤ 2048 by omega) with h | h | h
  · obtain rfl : s = 1 := by omega
    go_enter Try.func34, Try.ntmps34
    go_wp2
    exact bodyPost_ret_by (results_cell_row rfl _ _ w.heap.size _ _ _ _ rfl (heap_alloc_new w _) Try.underlying95 rfl fillInfo) rfl ⟨rfl, (Upd.refl _ _).alloc _⟩
  · obtain rfl : s = 2048 := by omega
    go_enter Try.func34, Try.ntmps34
    go_wp2
    exact bodyPost_ret_by (results_cell_row rfl _ _ w.heap.size _ _ _ _ rfl (heap_alloc_new w _) Try.underlying95 rfl fillInfo) rfl ⟨rfl, (Upd.refl _ _).alloc _⟩
  · obtain rfl : x = (s : Int) := by omega
    go_enter Try.func34, Try.ntmps34
    go_wp2
    exact bodyPost_ret_by (results_cell_row rfl _ _ w.heap.size _ _ _ _ rfl (heap_alloc_new w _) Try.underlying95 rfl fillInfo) rfl ⟨rfl, (Upd.refl _ _).alloc _⟩
/-- what is held, and how many pages were given, behind texts of these lengths -/
def pstep (s : Nat) (a : Nat × Nat) (x : Int) : Nat × Nat := if a.1 + x.toNat ≤ s then (a.1 + x.toNat, a.2) else (x.toNat, a.2 + 1)
def pst (s : Nat) (L : List Int) : Nat × Nat := L.foldl (pstep s) (0, 0)
theorem pst_snoc (s : Nat) (L : List Int) (x : Int) : pst s (L ++ [x]) = pstep s (pst s L) x := by unfold pst; rw [List.foldl_append]; rfl
def goodQ (s : Nat) (L : List Int) : Bool := L.all fun x => decide (1 ≤ x ∧ x ≤ (s : Int))
theorem goodQ_snoc (s : Nat) (L : List Int) (x : Int) : goodQ s (L ++ [x]) = (goodQ s L && decide (1 ≤ x ∧ x ≤ (s : Int))) := by unfold goodQ; simp
theorem goodQ_bad (s : Nat) (L : List Int) (k : Nat) (h : k < L.length) (hb : ¬ (1 ≤ L.getD k 0 ∧ L.getD k 0 ≤ (s : Int))) : goodQ s L = false := by
  unfold goodQ
  rw [List.all_eq_false]
  rw [List.getD_eq_getElem?_getD, List.getElem?_eq_getElem h] at hb
  exact ⟨L[k], List.getElem_mem _, by simpa using hb⟩
theorem takeI (L : List Int) (k : Nat) (h : k < L.length) : L.take (k + 1) = L.take k ++ [L.getD k 0] := by
  rw [List.take_add_one, List.getD_eq_getElem?_getD, List.getElem?_eq_getElem h]; rfl
/-- all pages, with the one that is flushed -/
def pall (a : Nat × Nat) : Nat := a.2 + if 0 < a.1 then 1 else 0

set_option maxRecDepth 20000 in
set_option maxHeartbeats 800000 in
theorem pages_any (x : Int) (a : Option Addr) (n c B : Nat) (zs : List Int) (w : World) (hr : Ints w B a n zs) (hB : B ≤ w.heap.size) (hn : n ≤ 17592186044416) (h1 : -9223372036854775808 ≤ x) (h2 : x ≤ 9223372036854775807) :
    Calls Try.prog 26 #[.int .i64 x, .slice a n c] w fun e w' => e = .returned (.tuple #[.int .i64 ((if goodQ (szQ x) zs = true then pall (pst (szQ x) zs) else 0 : Nat) : Int), .bool (goodQ (szQ x) zs)]) ∧ Upd noBlock w w' := by
  have HR := Lib.hid hr
  have HBB := Lib.hid hB
  have HN := Lib.hid hn
  have HL := Lib.hid hr.1
  have hnb : n ≤ 9223372036854775807 := by omega
  have HE := Lib.hid (fun w => empty_any x w h1 h2)
  have hs12 := szQ_le x
  obtain ⟨s, hs⟩ : ∃ s, szQ x = s := ⟨_, rfl⟩
  rw [hs] at HE hs12 ⊢
  have HS1 := Lib.hid hs12
  obtain ⟨hs1, hs2⟩ := hs12
  obtain ⟨V, hV⟩ : ∃ V : Nat, (if goodQ s zs = true then pall (pst s zs) else 0) = V := ⟨_, rfl⟩
  obtain ⟨G, hG⟩ : ∃ G : Bool, goodQ s zs = G := ⟨_, rfl⟩
  rw [hV, hG]
  have HV := Lib.hid hV
  have HGG := Lib.hid hG
  clear hr hB hn hs h1 h2 hV hG
  go_enter Try.func26, Try.ntmps26
  go_wp2_with (go_at_call 34; refine (HE.out _).mono ?_; rintro e w1 ⟨rfl, u1⟩; have U1 := Lib.hid u1; clear u1)
  have HF : Hid ((w1.alloc (.cells #[.int .i64 (s : Int), .int .i64 0, .int .i64 0] 95)).heap[w1.heap.size]? = some (.cells #[.int .i64 (s : Int), .int .i64 0, .int .i64 0] 95 (0, 0)) ∧ Upd noBlock w (w1.alloc (.cells #[.int .i64 (s : Int), .int .i64 0, .int .i64 0] 95)) ∧ w.heap.size ≤ w1.heap.size) := ⟨heap_alloc_new w1 _, U1.out.alloc _, U1.out.size⟩
  generalize w1.alloc (.cells #[.int .i64 (s : Int), .int .i64 0, .int .i64 0] 95) = wb at *
  generalize w1.heap.size = f at *
  clear HE U1
  go_loopw [13] (fun i wr => ∃ k h p : Nat, k ≤ n ∧ i = .int .i64 (k : Int) ∧ Hid (pst s (zs.take k) = (h, p)) ∧ Hid (goodQ s (zs.take k) = true) ∧ h ≤ s ∧ p ≤ k ∧ Hid (wr.heap[f]? = some (.cells #[.int .i64 (s : Int), .int .i64 (h : Int), .int .i64 (p : Int)] 95 (0, 0))) ∧ Hid (Upd noBlock w wr)) (fun i _ => n - (intOf i).toNat)
  case atStart => exact ⟨0, 0, 0, Nat.zero_le _, rfl, rfl, rfl, Nat.zero_le _, Nat.le_refl _, HF.out.1, HF.out.2.1⟩
  case round =>
    obtain ⟨k, h, p, hk, rfl, HP, HG, hh, hp, HC, HU⟩ := hrel
    by_cases h0 : k < n
    · obtain ⟨b, off, hab, hb, hc⟩ := (HR.out.grow HU.out HBB.out).cell (by omega)
      subst hab
      have c1 := hc k h0
      have c0 : wr.cell? ⟨f, 0, none⟩ = some (.int .i64 (s : Int)) := cell_of HC.out 0
      have HT := Lib.hid (takeI zs k (by rw [HL.out]; exact h0))
      by_cases hx : 1 ≤ zs.getD k 0 ∧ zs.getD k 0 ≤ (s : Int)
      · have HX := Lib.hid hx
        obtain ⟨m, hm⟩ : ∃ m : Nat, zs.getD k 0 = (m : Int) := ⟨(zs.getD k 0).toNat, by omega⟩
        rw [hm] at c1 hx
        have HG' : Hid (goodQ s (zs.take (k + 1)) = true) := by
          show _ = _
          rw [HT.out, goodQ_snoc, HG.out, decide_eq_true HX.out]; rfl
        have HP' : Hid (pst s (zs.take (k + 1)) = if h + m ≤ s then (h + m, p) else (m, p + 1)) := by
          show _ = _
          rw [HT.out, pst_snoc, HP.out, hm]; rfl
        obtain ⟨hx1, hx2⟩ := hx
        clear hc hm
        by_cases hf : h + m ≤ s
        · rw [if_pos hf] at HP'
          have HA := Lib.hid (fadd_fits f s h m _ _ wr HC.out rfl rfl hs2 hf)
          go_wp2_with (go_at_call 35; refine HA.out.mono ?_; rintro e w2 ⟨rfl, hb2, u2⟩; have HB2 := Lib.hid hb2; have HU2 := Lib.hid (HU.out.step u2 (fun i hi e => absurd (show i = f from e) (by have := HF.out.2.2; omega))); clear hb2 u2)
          go_roundw
          case rel => exact ⟨k + 1, h + m, p, by omega, by go_num, HP', HG', hf, by omega, HB2, HU2⟩
          case measure => simp [intOf]; omega
        · rw [if_neg hf] at HP'
          have HA := Lib.hid (fadd_full f s h p m _ _ wr HC.out rfl rfl rfl hs2 hh (by omega) (by omega) (by have := HN.out; omega))
          go_wp2_with (go_at_call 35; refine HA.out.mono ?_; rintro e w2 ⟨rfl, hb2, u2⟩; have HB2 := Lib.hid hb2; have HU2 := Lib.hid (HU.out.step u2 (fun i hi e => absurd (show i = f from e) (by have := HF.out.2.2; omega))); clear hb2 u2)
          go_roundw
          case rel => exact ⟨k + 1, m, p + 1, by omega, by go_num, HP', HG', by omega, by omega, HB2, HU2⟩
          case measure => simp [intOf]; omega
      · have HX := Lib.hid (goodQ_bad s zs k (by rw [HL.out]; exact h0) hx)
        generalize zs.getD k 0 = z at *
        clear hc
        by_cases hz : z < 1
        · go_wp2_with fail
          go_ret2
          refine ⟨?_, HU.out⟩
          have e1 := HV.out
          have e2 := HGG.out
          rw [HX.out] at e1 e2
          rw [← e1, ← e2]; rfl
        · have hz2 : (s : Int) < z := by omega
          clear hx
          go_wp2_with fail
          go_ret2
          refine ⟨?_, HU.out⟩
          have e1 := HV.out
          have e2 := HGG.out
          rw [HX.out] at e1 e2
          rw [← e1, ← e2]; rfl
    · obtain rfl : k = n := by omega
      have e : zs.take k = zs := List.take_of_length_le (by rw [HL.out]; omega)
      rw [e] at HP HG
      by_cases hz : 0 < h
      · have HA := Lib.hid (fend_some f h p _ _ wr HC.out rfl rfl hz (by have := HN.out; omega))
        go_wp2_with (go_at_call 36; refine HA.out.mono ?_; rintro e w2 ⟨rfl, hb2, u2⟩; have c2 : w2.cell? ⟨f, 2, none⟩ = some (.int .i64 ((p : Int) + 1)) := cell_of hb2 2; have HU2 := Lib.hid (HU.out.step u2 (fun i hi e => absurd (show i = f from e) (by have := HF.out.2.2; omega))); clear hb2 u2)
        go_ret2
        refine ⟨?_, HU2.out⟩
        have e1 := HV.out
        have e2 := HGG.out
        rw [HG.out] at e1 e2
        rw [HP.out, if_pos rfl] at e1
        simp only [pall, if_pos hz] at e1
        rw [← e1, ← e2]
        rfl
      · obtain rfl : h = 0 := by omega
        have c2 : wr.cell? ⟨f, 2, none⟩ = some (.int .i64 (p : Int)) := cell_of HC.out 2
        have HA := Lib.hid (fend_zero f _ _ wr HC.out rfl)
        go_wp2_with (go_at_call 36; refine HA.out.mono ?_; rintro e w2 ⟨rfl, rfl⟩)
        go_ret2
        refine ⟨?_, HU.out⟩
        have e1 := HV.out
        have e2 := HGG.out
        rw [HG.out] at e1 e2
        rw [HP.out, if_pos rfl] at e1
        rw [← e1, ← e2]
        rfl

def one (a : Nat) : Nat := if 0 < a then 1 else 0
theorem one_le (a : Nat) : one a ≤ 1 := by unfold one; split <;> omega
theorem one_pos {a : Nat} (h : 0 < a) : one a = 1 := if_pos h
theorem fold_le (s : Nat) : ∀ (L : List Int) (a : Nat × Nat), (∀ x ∈ L, x.toNat ≤ s) → (L.foldl (pstep s) a).2 + one (L.foldl (pstep s) a).1 ≤ a.2 + one a.1 + L.length
  | [], a, _ => Nat.le_refl _
  | x :: L, a, h => by
    have ih := fold_le s L (pstep s a x) (fun y hy => h y (List.mem_cons_of_mem _ hy))
    have hx := h x List.mem_cons_self
    rw [List.foldl_cons, List.length_cons]
    refine Nat.le_trans ih ?_
    have e : (pstep s a x).2 + one (pstep s a x).1 ≤ a.2 + one a.1 + 1 := by
      unfold pstep
      by_cases q : a.1 + x.toNat ≤ s
      · rw [if_pos q]
        have := one_le (a.1 + x.toNat)
        show a.2 + one (a.1 + x.toNat) ≤ _
        omega
      · rw [if_neg q]
        have := one_le x.toNat
        have := one_pos (show 0 < a.1 by omega)
        show a.2 + 1 + one x.toNat ≤ _
        omega
    omega
theorem pall_le (s : Nat) (L : List Int) (h : ∀ x ∈ L, x.toNat ≤ s) : pall (pst s L) ≤ L.length := by
  have := fold_le s L (0, 0) h
  have e : one 0 = 0 := rfl
  rw [show ((0, 0) : Nat × Nat).2 = 0 from rfl, show ((0, 0) : Nat × Nat).1 = 0 from rfl, e] at this
  unfold pall pst
  show _ + one _ ≤ _
  omega
/-- of lengths that fit, there are no more pages than lengths -/
theorem pages_few (x : Int) (a : Option Addr) (n c B : Nat) (zs : List Int) (w : World) (hr : Ints w B a n zs) (hB : B ≤ w.heap.size) (hn : n ≤ 2000) (h1 : 1 ≤ x) (h2 : x ≤ 2048) (hz : ∀ z ∈ zs, 1 ≤ z ∧ z ≤ x) :
    Calls Try.prog 26 #[.int .i64 x, .slice a n c] w fun e w' => ∃ p : Nat, e = .returned (.tuple #[.int .i64 (p : Int), .bool true]) ∧ p ≤ n ∧ Upd noBlock w w' := by
  have hs : szQ x = x.toNat := by unfold szQ; omega
  have hg : goodQ (szQ x) zs = true := by
    unfold goodQ
    rw [List.all_eq_true]
    intro z h
    have := hz z h
    rw [hs]
    exact decide_eq_true (by omega)
  refine (pages_any x a n c B zs w hr hB (by omega) (by omega) (by omega)).mono fun e w' ⟨he, hu⟩ => ?_
  rw [hg, if_pos rfl] at he
  exact ⟨_, he, by have := pall_le (szQ x) zs (fun z h => by have := hz z h; rw [hs]; omega); rw [hr.1] at this; exact this, hu⟩
end Go.Proofs.Ytnimgkijodfjkaa
