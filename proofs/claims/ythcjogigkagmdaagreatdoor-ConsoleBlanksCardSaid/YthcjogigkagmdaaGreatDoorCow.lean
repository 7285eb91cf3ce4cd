/- Parse. -/
import Derived.Test.YthcjogigkagmdaaGreatDoorCov
namespace Go.Proofs.YthcjogigkagmdaaGreatDoor
open Go.RowKit
set_option linter.unusedVariables false

theorem run_fail : ∀ (L : List (List UInt8)) (n : Nat) (s : Con.Scr), (Con.runL n s L).2.1 ≠ 0 → (Con.runL n s L).1 = Con.zS
  | [], n, s, h => absurd rfl h
  | l :: r, n, s, h => by
    rw [Con.runL] at h ⊢
    split at h
    · next h0 => rw [if_pos h0]; exact run_fail r _ _ h
    · next h0 => rw [if_neg h0]
theorem run_ok : ∀ (L : List (List UInt8)) (n : Nat) (s : Con.Scr), (Con.runL n s L).2.1 = 0 → (Con.runL n s L).2.2 = 0
  | [], n, s, h => rfl
  | l :: r, n, s, h => by
    rw [Con.runL] at h ⊢
    split at h
    · next h0 => rw [if_pos h0]; exact run_ok r _ _ h
    · next h0 => exact absurd h h0
/-- a script as a value -/
def scrV (g1 g2 g3 g4 g5 : Int) (a : Option Addr) (m c : Nat) : Value := .agg #[.int .i64 g1, .int .i64 g2, .int .i64 g3, .int .i64 g4, .int .i64 g5, .slice a m c]
def fauV (c n : Int) : Value := .agg #[.int .i64 c, .int .i64 n]
/-- a script's value, as it stands in a world: its numbers, its acts, in blocks from B on -/
structure ScrIn (w : World) (B : Nat) (s : Con.Scr) (g1 g2 g3 g4 g5 : Int) (a : Option Addr) (m c : Nat) : Prop where
  nums : s.nums = [g1, g2, g3, g4, g5]
  len : m = s.acts.length
  acts : w.ownsRow B 64 6 (.slice a m c) m (actsC s.acts)
/-- what Parse does -/
def ParseP (t : List UInt8) (w : World) (e : Ending) (w' : World) : Prop :=
  ∃ g1 g2 g3 g4 g5 a m c, e = .returned (.tuple #[scrV g1 g2 g3 g4 g5 a m c, fauV (Con.parseL t).2.1 ((Con.parseL t).2.2 : Int)]) ∧ ScrIn w' w.heap.size (Con.parseL t).1 g1 g2 g3 g4 g5 a m c ∧ m ≤ t.length ∧ Upd noBlock w w'
theorem res_cc {P : Program} {fn : Func} {p u : Tmp} {ty ty2 : TypeId} (h : fn.results = #[.cell p ty, .cell u ty2]) (tmps : Array Value) (w : World) (g g2 : Nat) (t t2 : TypeId) (cs cs2 : Array Value) (fr fr2 : Nat × Nat) (d d2 : TypeDesc)
    (hp : tmps.getD p undef = .pointer (some ⟨g, 0, none⟩)) (hg : w.heap[g]? = some (.cells cs t fr))
    (hu : P.underlying ty = some d) (hd : (match d with | .struct _ | .array _ _ => true | _ => false) = true) (hi : (P.info? ty).map (·.size) = some cs.size)
    (hp2 : tmps.getD u undef = .pointer (some ⟨g2, 0, none⟩)) (hg2 : w.heap[g2]? = some (.cells cs2 t2 fr2))
    (hu2 : P.underlying ty2 = some d2) (hd2 : (match d2 with | .struct _ | .array _ _ => true | _ => false) = true) (hi2 : (P.info? ty2).map (·.size) = some cs2.size) :
    (results fn tmps).run P w = .ok (.tuple #[.agg cs, .agg cs2]) w := by
  have hp' : tmps[p]?.getD undef = .pointer (some ⟨g, 0, none⟩) := by simpa using hp
  have hp2' : tmps[u]?.getD undef = .pointer (some ⟨g2, 0, none⟩) := by simpa using hp2
  simp [results, h, hp', hp2', asAddr, Result.andThen, run_loadVar_row w g t ty cs fr d hg hu hd hi, run_loadVar_row w g2 t2 ty2 cs2 fr2 d2 hg2 hu2 hd2 hi2]
theorem scrInfo : (Tryz.prog.info? 27).map (·.size) = some 6 := by kernel_rfl
theorem fauInfo : (Tryz.prog.info? 30).map (·.size) = some 2 := by kernel_rfl
def scrC (g1 g2 g3 g4 g5 : Int) (v : Value) : Array Value := #[.int .i64 g1, .int .i64 g2, .int .i64 g3, .int .i64 g4, .int .i64 g5, v]
def fauC (c n : Int) : Array Value := #[.int .i64 c, .int .i64 n]
theorem scr_cells {w : World} {b : Nat} {g1 g2 g3 g4 g5 : Int} {v : Value} (h : w.heap[b]? = some (.cells (scrC g1 g2 g3 g4 g5 v) 27 (0, 0))) :
    (w.cell? ⟨b, 0, none⟩ = some (.int .i64 g1) ∧ w.cell? ⟨b, 1, none⟩ = some (.int .i64 g2) ∧ w.cell? ⟨b, 2, none⟩ = some (.int .i64 g3) ∧ w.cell? ⟨b, 3, none⟩ = some (.int .i64 g4) ∧ w.cell? ⟨b, 4, none⟩ = some (.int .i64 g5) ∧ w.cell? ⟨b, 5, none⟩ = some v) ∧
    (w.frozen? ⟨b, 0, none⟩ = false ∧ w.frozen? ⟨b, 1, none⟩ = false ∧ w.frozen? ⟨b, 2, none⟩ = false ∧ w.frozen? ⟨b, 3, none⟩ = false ∧ w.frozen? ⟨b, 4, none⟩ = false ∧ w.frozen? ⟨b, 5, none⟩ = false) :=
  ⟨⟨cell_of h 0, cell_of h 1, cell_of h 2, cell_of h 3, cell_of h 4, cell_of h 5⟩, free_of h 0, free_of h 1, free_of h 2, free_of h 3, free_of h 4, free_of h 5⟩
theorem fau_cells {w : World} {b : Nat} {c n : Int} {T : TypeId} (h : w.heap[b]? = some (.cells (fauC c n) T (0, 0))) :
    (w.cell? ⟨b, 0, none⟩ = some (.int .i64 c) ∧ w.cell? ⟨b, 1, none⟩ = some (.int .i64 n)) ∧ (w.frozen? ⟨b, 0, none⟩ = false ∧ w.frozen? ⟨b, 1, none⟩ = false) :=
  ⟨⟨cell_of h 0, cell_of h 1⟩, free_of h 0, free_of h 1⟩
/-- Parse's two results written -/
theorem both_set {w : World} {b : Nat} {h1 h2 h3 h4 h5 : Int} {u : Value} {c0 n0 : Int} (hs : w.heap[b]? = some (.cells (scrC h1 h2 h3 h4 h5 u) 27 (0, 0))) (hf : w.heap[b + 1]? = some (.cells (fauC c0 n0) 30 (0, 0)))
    (g1 g2 g3 g4 g5 : Int) (v : Value) (c n : Int) :
    ∃ W, ((((((((w.setCell ⟨b, 0, none⟩ (.int .i64 g1)).setCell ⟨b, 1, none⟩ (.int .i64 g2)).setCell ⟨b, 2, none⟩ (.int .i64 g3)).setCell ⟨b, 3, none⟩ (.int .i64 g4)).setCell ⟨b, 4, none⟩ (.int .i64 g5)).setCell ⟨b, 5, none⟩ v).setCell ⟨b + 1, 0, none⟩ (.int .i64 c)).setCell ⟨b + 1, 1, none⟩ (.int .i64 n)) = W ∧
      W.heap[b]? = some (.cells (scrC g1 g2 g3 g4 g5 v) 27 (0, 0)) ∧ W.heap[b + 1]? = some (.cells (fauC c n) 30 (0, 0)) ∧ Upd (fun k => k = b ∨ k = b + 1) w W := by
  refine ⟨_, rfl, ?_, ?_, ?_⟩
  · exact block_set_other (block_set_other (block_set (i := 5) (block_set (i := 4) (block_set (i := 3) (block_set (i := 2) (block_set (i := 1) (block_set (i := 0) hs _) _) _) _) _) _) (by simp) _) (by simp) _
  · exact block_set (i := 1) (block_set (i := 0) (block_set_other (block_set_other (block_set_other (block_set_other (block_set_other (block_set_other hf (by simp) _) (by simp) _) (by simp) _) (by simp) _) (by simp) _) (by simp) _) _) _
  · exact ((((((((Upd.refl _ w).setCell (p := ⟨b, 0, none⟩) (.inl (.inl rfl)) _).setCell (p := ⟨b, 1, none⟩) (.inl (.inl rfl)) _).setCell (p := ⟨b, 2, none⟩) (.inl (.inl rfl)) _).setCell (p := ⟨b, 3, none⟩) (.inl (.inl rfl)) _).setCell (p := ⟨b, 4, none⟩) (.inl (.inl rfl)) _).setCell (p := ⟨b, 5, none⟩) (.inl (.inl rfl)) _).setCell (p := ⟨b + 1, 0, none⟩) (.inl (.inr rfl)) _).setCell (p := ⟨b + 1, 1, none⟩) (.inl (.inr rfl)) _
theorem own_keep {w w' : World} {B B' : Nat} {e : TypeId} {n m : Nat} {v : Value} {xs : List Value} {R : Nat → Prop} (h : w.ownsRow B e n v m xs) (hu : Upd R w w') (hR : ∀ k, B ≤ k → ¬ R k) (hB : B' ≤ B) : w'.ownsRow B' e n v m xs := by
  obtain ⟨hl, ho⟩ := h
  refine ⟨hl, ?_⟩
  rcases ho with ⟨h1, h2⟩ | ⟨g, cap, cur, rfl, hb, hgg, r⟩
  · exact .inl ⟨h1, h2⟩
  · exact .inr ⟨g, cap, cur, rfl, Nat.le_trans hB hb, hu.cells hgg (hR g hb), r⟩
theorem own_nil (w : World) (B : Nat) (e : TypeId) (n : Nat) : w.ownsRow B e n (.slice none 0 0) 0 [] := ⟨by simp, .inl ⟨rfl, rfl⟩⟩
set_option maxRecDepth 100000 in
set_option maxHeartbeats 1600000 in
theorem parse_long (x : ByteArray) (w : World) (hx : 65536 < x.size) (hx2 : x.size ≤ 140737488351232) :
    Calls Tryz.prog 10 #[.string x] w (ParseP x.data.toList w) := by
  have hp : Con.parseL x.data.toList = (Con.zS, 2, 0) := by unfold Con.parseL; exact if_pos hx
  unfold ParseP
  rw [hp]
  have ht : decide ((65536 : Int) < (x.size : Int)) = true := decide_eq_true (by omega)
  have hs : IntKind.i64.wrap (x.size : Int) = (x.size : Int) := IntWalk.i64_in _ (by omega)
  have U2 := Lib.hid (((Upd.refl noBlock w).alloc (.cells #[.int .i64 0, .int .i64 0, .int .i64 0, .int .i64 0, .int .i64 0, .slice none 0 0] 27)).alloc (.cells #[.int .i64 2, .int .i64 0] 30))
  clear hp
  go_enter Tryz.func10, Tryz.ntmps10
  have hA := block_alloc (heap_alloc_new w (.cells #[.int .i64 0, .int .i64 0, .int .i64 0, .int .i64 0, .int .i64 0, .slice none 0 0] 27)) (.cells #[.int .i64 2, .int .i64 0] 30)
  have hB := heap_alloc_new (w.alloc (.cells #[.int .i64 0, .int .i64 0, .int .i64 0, .int .i64 0, .int .i64 0, .slice none 0 0] 27)) (.cells #[.int .i64 2, .int .i64 0] 30)
  have HA := Lib.hid hA
  rw [show (w.alloc (.cells #[.int .i64 0, .int .i64 0, .int .i64 0, .int .i64 0, .int .i64 0, .slice none 0 0] 27)).heap.size = w.heap.size + 1 from by simp] at hB
  have HB := Lib.hid hB
  clear hA hB
  go_wp2
  exact bodyPost_ret_by (res_cc rfl _ _ w.heap.size (w.heap.size + 1) _ _ _ _ _ _ _ _ rfl HA.out Tryz.underlying27 rfl scrInfo rfl HB.out Tryz.underlying30 rfl fauInfo) rfl ⟨0, 0, 0, 0, 0, none, 0, 0, rfl, ⟨rfl, rfl, own_nil _ _ _ _⟩, Nat.zero_le _, U2.out⟩
set_option maxRecDepth 100000 in
set_option maxHeartbeats 1600000 in
theorem parse_short (x : ByteArray) (w : World) (hg : Gl w) (hx : x.size ≤ 65536) :
    Calls Tryz.prog 10 #[.string x] w (ParseP x.data.toList w) := by
  have hp : Con.parseL x.data.toList = Con.runL 0 Con.zS (Con.linesOf x.data.toList) := by unfold Con.parseL; exact if_neg (by show ¬ 65536 < x.size; omega)
  unfold ParseP
  rw [hp]
  have hrf := run_fail (Con.linesOf x.data.toList) 0 Con.zS
  have hro := run_ok (Con.linesOf x.data.toList) 0 Con.zS
  have ht : decide ((65536 : Int) < (x.size : Int)) = false := decide_eq_false (by omega)
  have hs : IntKind.i64.wrap (x.size : Int) = (x.size : Int) := IntWalk.i64_in _ (by omega)
  obtain ⟨w1, hw1⟩ : ∃ w1, ((w.alloc (.cells #[.int .i64 0, .int .i64 0, .int .i64 0, .int .i64 0, .int .i64 0, .slice none 0 0] 27)).alloc (.cells #[.int .i64 0, .int .i64 0] 30)) = w1 := ⟨_, rfl⟩
  obtain ⟨w2, hw2⟩ : ∃ w2, (w1.alloc (.cells #[.int .i64 0, .int .i64 0, .int .i64 0, .int .i64 0, .int .i64 0, .slice none 0 0, .int .i64 0] 66)).alloc (.cells #[.int .i64 0, .int .i64 0] 68) = w2 := ⟨_, rfl⟩
  have e1 : w1.heap.size = w.heap.size + 1 + 1 := by rw [← hw1]; simp
  have e2 : w2.heap.size = w.heap.size + 1 + 1 + 1 + 1 := by rw [← hw2]; simp [e1]
  have b1 : w1.heap[w.heap.size]? = some (.cells #[.int .i64 0, .int .i64 0, .int .i64 0, .int .i64 0, .int .i64 0, .slice none 0 0] 27 (0, 0)) := by rw [← hw1]; exact block_alloc (heap_alloc_new w _) _
  have b2 : w1.heap[w.heap.size + 1]? = some (.cells #[.int .i64 0, .int .i64 0] 30 (0, 0)) := by
    rw [← hw1]
    have h9 := heap_alloc_new (w.alloc (.cells #[.int .i64 0, .int .i64 0, .int .i64 0, .int .i64 0, .int .i64 0, .slice none 0 0] 27)) (.cells #[.int .i64 0, .int .i64 0] 30)
    simpa using h9
  have c1 : w2.heap[w.heap.size]? = some (.cells (scrC 0 0 0 0 0 (.slice none 0 0)) 27 (0, 0)) := by rw [← hw2]; exact block_alloc (block_alloc b1 _) _
  have c2 : w2.heap[w.heap.size + 1]? = some (.cells (fauC 0 0) 30 (0, 0)) := by rw [← hw2]; exact block_alloc (block_alloc b2 _) _
  have c3 : w2.heap[w.heap.size + 1 + 1]? = some (.cells (rdC 0 0 0 0 0 (.slice none 0 0) 0) 66 (0, 0)) := by
    rw [← hw2, ← e1]; exact block_alloc (heap_alloc_new w1 _) _
  have c4 : w2.heap[w.heap.size + 1 + 1 + 1]? = some (.cells #[.int .i64 0, .int .i64 0] 68 (0, 0)) := by
    rw [← hw2, ← e1]
    have h9 := heap_alloc_new (w1.alloc (.cells #[.int .i64 0, .int .i64 0, .int .i64 0, .int .i64 0, .int .i64 0, .slice none 0 0, .int .i64 0] 66)) (.cells #[.int .i64 0, .int .i64 0] 68)
    simpa using h9
  have U2 : Upd noBlock w w2 := by rw [← hw2, ← hw1]; exact ((((Upd.refl _ _).alloc _).alloc _).alloc _).alloc _
  have hr : RdSome w2 (w.heap.size + 1 + 1) w2.heap.size Con.zS 0 := ⟨_, _, _, _, _, _, c3, rfl, own_nil _ _ _ _, by have := hg.all; omega⟩
  have HREAD := Lib.hid (read_any (w.heap.size + 1 + 1) w2.heap.size x w2 (hg.grow U2) hr hx (Nat.le_refl _) (by have := hg.all; omega))
  have HG2 := Lib.hid (hg.grow U2)
  unfold ReadP at HREAD
  generalize Con.runL 0 Con.zS (Con.linesOf x.data.toList) = R at *
  have C1 := Lib.hid c1
  have C2 := Lib.hid c2
  have C4 := Lib.hid c4
  have HU2 := Lib.hid U2
  have E2 := Lib.hid e2
  have HRF := Lib.hid hrf
  have HRO := Lib.hid hro
  have h10 := hg.all
  have HX : Hid (x.size ≤ x.data.toList.length) := Nat.le_refl x.size
  generalize x.data.toList = l at *
  clear hp hr U2 c1 c2 c3 c4 b1 b2 hg hrf hro
  go_enter Tryz.func10, Tryz.ntmps10
  have B1 : Hid (∀ W, Upd (above (w.heap.size + 1 + 1) w2.heap.size) w2 W → W.heap[w.heap.size]? = some (.cells (scrC 0 0 0 0 0 (.slice none 0 0)) 27 (0, 0)) ∧ W.heap[w.heap.size + 1]? = some (.cells (fauC 0 0) 30 (0, 0)) ∧ W.heap[w.heap.size + 1 + 1 + 1]? = some (.cells #[.int .i64 0, .int .i64 0] 68 (0, 0))) := fun W h =>
    ⟨h.cells C1.out (by unfold above; omega), h.cells C2.out (by unfold above; omega), h.cells C4.out (by unfold above; omega)⟩
  go_wp2_with fail
  refine HREAD.out.mono ?_
  rintro e w3 ⟨h, hu⟩
  obtain ⟨d1, d2, d4⟩ := B1.out w3 hu
  have D1 := Lib.hid d1
  have D2 := Lib.hid d2
  have D4 := Lib.hid d4
  have U3 := Lib.hid hu
  rcases h with ⟨h1, rfl, n, h2, h3⟩ | ⟨h1, rfl, s', n, h2⟩
  · have AN := as_nil
    have hr0 := Lib.hid (HRO.out h1)
    have H1 := Lib.hid h1
    obtain ⟨v, g1, g2, g3, g4, g5, hR⟩ := h2
    have HR := Lib.hid hR
    obtain ⟨a, c, hv⟩ := own_sliceC hR.acts
    subst hv
    obtain ⟨⟨r0, r1, r2, r3, r4, r5, r6⟩, q0, q1, q2, q3, q4, q5, q6⟩ := rd_cells hR.head
    obtain ⟨⟨s0, s1, s2, s3, s4, s5⟩, t0, t1, t2, t3, t4, t5⟩ := scr_cells d1
    obtain ⟨⟨f0, f1⟩, y0, y1⟩ := fau_cells d2
    obtain ⟨W, hW, k1, k2, k3⟩ := both_set d1 d2 g1 g2 g3 g4 g5 (.slice a R.1.acts.length c) 0 0
    have HW := Lib.hid (And.intro k1 (And.intro k2 k3))
    have H3 := Lib.hid h3
    clear d1 d2 d4 hu h1 h3 hR k1 k2 k3
    go_wp2
    exact bodyPost_ret_by (res_cc rfl _ _ w.heap.size (w.heap.size + 1) _ _ _ _ _ _ _ _ rfl HW.out.1 Tryz.underlying27 rfl scrInfo rfl HW.out.2.1 Tryz.underlying30 rfl fauInfo) rfl ⟨g1, g2, g3, g4, g5, a, R.1.acts.length, c, by rw [H1.out, hr0.out]; rfl, ⟨HR.out.nums, rfl, own_keep HR.out.acts HW.out.2.2 (fun k hk h => by rcases h with h | h <;> omega) (by omega)⟩, H3.out, (HU2.out.step U3.out (fun i hi h => by unfold above at h; omega)).step HW.out.2.2 (fun i hi h => by rcases h with h | h <;> omega)⟩
  · have hz := Lib.hid (HRF.out h1)
    have HAS := Lib.hid (as_hit (w.heap.size + 1 + 1 + 1) R.2.1 R.2.2 w3 (HG2.out.upd hu (fun k hk h => by unfold above at h; omega)) d4)
    unfold errV at *
    clear d1 d2 d4 hu h1 h2
    go_wp2_with (go_at_call 19; (with_reducible refine HAS.out.mono ?_); rintro e w4 ⟨rfl, h5, hu4⟩; have U4 := Lib.hid hu4; obtain ⟨⟨f0, f1⟩, y0, y1⟩ := fau_cells h5; have d1 := hu4.cells D1.out (by unfold oneBlock; omega); have d2 := hu4.cells D2.out (by unfold oneBlock; omega); obtain ⟨⟨s0, s1, s2, s3, s4, s5⟩, t0, t1, t2, t3, t4, t5⟩ := scr_cells d1; obtain ⟨⟨f20, f21⟩, y20, y21⟩ := fau_cells d2; obtain ⟨W, hW, k1, k2, k3⟩ := both_set d1 d2 0 0 0 0 0 (.slice none 0 0) R.2.1 R.2.2; have HW := Lib.hid (And.intro k1 (And.intro k2 k3)); have D5 := Lib.hid (And.intro h5 (And.intro d1 d2)); clear h5 hu4 d1 d2 k1 k2 k3)
    go_region
    all_goals
      go_wp2
      have p1 : W.drew.heap[w.heap.size]? = _ := HW.out.1
      have p2 : W.drew.heap[w.heap.size + 1]? = _ := HW.out.2.1
      exact bodyPost_ret_by (res_cc rfl _ _ w.heap.size (w.heap.size + 1) _ _ _ _ _ _ _ _ rfl p1 Tryz.underlying27 rfl scrInfo rfl p2 Tryz.underlying30 rfl fauInfo) rfl ⟨0, 0, 0, 0, 0, none, 0, 0, rfl, ⟨by rw [hz.out]; rfl, by rw [hz.out]; rfl, by rw [hz.out]; exact own_nil _ _ _ _⟩, Nat.zero_le _, (((HU2.out.step U3.out (fun i hi h => by unfold above at h; omega)).step U4.out (fun i hi h => by unfold oneBlock at h; omega)).step HW.out.2.2 (fun i hi h => by rcases h with h | h <;> omega)).drew⟩
theorem parse_any (x : ByteArray) (w : World) (hg : Gl w) (hx : x.size ≤ 140737488351232) : Calls Tryz.prog 10 #[.string x] w (ParseP x.data.toList w) := by
  by_cases h : 65536 < x.size
  · exact parse_long x w h hx
  · exact parse_short x w hg (by omega)
end Go.Proofs.YthcjogigkagmdaaGreatDoor
