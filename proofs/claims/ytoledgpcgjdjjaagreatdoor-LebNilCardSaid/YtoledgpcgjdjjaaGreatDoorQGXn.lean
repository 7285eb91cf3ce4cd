import Derived.Test.YtoledgpcgjdjjaaGreatDoorQGKa
import Derived.Test.YtoledgpcgjdjjaaGreatDoorQGXa
import Derived.Deep.OwnRows
/- numbers.Split; numbers.Join of two and three numbers. -/
namespace Go.Proofs.YtoledgpcgjdjjaaGreatDoor.Lb
open Go.RowKit Cm Pm
attribute [local irreducible] beZ valN

theorem JoinL (size : Nat) (hs : size ≤ 8) (z : Int) (hz : z = (size : Int)) (L : List Int) (hL : L.length ≤ 1000) (n : Nat) (hn : L.length = n) (h : Nat) (W : World) (hc : ∀ i, i < L.length → W.cell? ⟨h, i, none⟩ = some (.int .i64 (L.getD i 0))) :
    Calls Tryz.prog 118 #[.int .i64 z, .slice (some ⟨h, 0, none⟩) n n] W fun e w' => e = .returned (.string ⟨(joinZ size L).toArray⟩) ∧ Upd noBlock W w' := by
  subst hz hn
  exact Join_any size L W.heap.size L.length _ W hs (by omega) (ints_cells L hc) (Nat.le_refl _)
end Go.Proofs.YtoledgpcgjdjjaaGreatDoor.Lb

/- How a volume's blocks are used: plan, roomOf. -/
namespace Go.Proofs.YtoledgpcgjdjjaaGreatDoor
open F
open Go.RowKit Pm Cm Pr
set_option linter.unusedVariables false
attribute [local irreducible] openL decUp empUp Lib.onesCount parT sealed

theorem planInfo : (Tryz.prog.info? 91).map (·.size) = some 2 := by kernel_rfl
section
variable {A : Vp} {M : Ch} {V : Vo} {w : World}
theorem VolIn.np4 (h : VolIn w A M V) : 4 ≤ M.np ∧ M.np ≤ 64 ∧ M.np % 4 = 0 := by
  have := h.good.p1; have := h.good.p2; have := h.good.p4
  omega
theorem VolIn.nb1 (h : VolIn w A M V) : 1 ≤ M.nb ∧ M.nb ≤ 64 := by
  have := h.good.b1; have := h.good.b2
  omega
theorem VolIn.room7 (h : VolIn w A M V) : A.room ≤ 1017 := by
  obtain ⟨b1, b2, p1, p2, p4, c1, c2, k1, k2, t1, t2⟩ := h.good
  have m2 : A.c * A.k ≤ 1024 := Nat.mul_le_mul (show A.c ≤ 4 by omega) (show A.k ≤ 256 by omega)
  unfold Vp.room; omega
set_option maxRecDepth 100000 in
set_option maxHeartbeats 1600000 in
theorem plan_any (s : Bool) (h : VolIn w A M V) :
    Calls Tryz.prog 48 #[.pointer (some ⟨A.v, 0, none⟩), .bool s] w fun e w' => ∃ v1 v2, e = .returned (.agg #[v1, v2]) ∧ Pr.OwnV w' w.heap.size v1 (dl s (M.np - 3)) ∧ Pr.OwnV w' w.heap.size v2 (parL s M.np) ∧ Upd noBlock w w' := by
  obtain ⟨n4, n64, nm⟩ := h.np4
  have HOF := Lib.hid (fun W => of_in M.np s W n4 n64 nm)
  obtain ⟨r0, hr0⟩ : ∃ r0, r0 = w.heap.size := ⟨_, rfl⟩
  obtain ⟨wa, hwa⟩ : ∃ wa, wa = w.alloc (.cells #[.slice none 0 0, .slice none 0 0] 91) := ⟨_, rfl⟩
  have UA : Hid (Upd noBlock w wa) := by rw [hwa]; exact (Upd.refl _ _).alloc _
  have RA : Hid (wa.heap[r0]? = some (.cells #[.slice none 0 0, .slice none 0 0] 91 (0, 0))) := by rw [hwa, hr0]; exact heap_alloc_new w _
  have HR0 : Hid (w.heap.size ≤ r0) := Nat.le_of_eq hr0.symm
  have HA := h.grow UA.out
  obtain ⟨c0, c1, c2, c3, c4, c5, c6⟩ := HA.cells
  have p1 := cell_of HA.pgr.pg 1
  have p1' : wa.cell? ⟨A.q, 1, none⟩ = some (.int .i64 (M.np : Int)) := p1
  clear h HA p1 n4 n64 nm
  go_enter Tryz.func48, Tryz.ntmps48
  go_upto_region 1 with fail
  rw [← hwa, ← hr0]
  clear hwa hr0
  go_upto_region 2 with (go_at_call 78; (with_reducible refine (HOF.out _).mono ?_); rintro e w1 ⟨v1, v2, rfl, o1, o2, hu⟩; obtain ⟨a1, q1, rfl, -, -, -⟩ := o1.sl; obtain ⟨a2, q2, rfl, -, -, -⟩ := o2.sl; have O1 := Lib.hid o1; have O2 := Lib.hid o2; have U1 := Lib.hid hu; clear o1 o2 hu)
  obtain ⟨n1, hn1⟩ : ∃ n1, (dl s (M.np - 3)).length = n1 := ⟨_, rfl⟩
  obtain ⟨n2, hn2⟩ : ∃ n2, (parL s M.np).length = n2 := ⟨_, rfl⟩
  rw [hn1] at O1 ⊢
  rw [hn2] at O2 ⊢
  obtain ⟨wf, hwf⟩ : ∃ wf, wf = w1.alloc (.cells #[(.slice a1 n1 q1), (.slice a2 n2 q2)] 91) := ⟨_, rfl⟩
  obtain ⟨g0, hg0⟩ : ∃ g0, g0 = w1.heap.size := ⟨_, rfl⟩
  have UF : Hid (Upd noBlock w1 wf) := by rw [hwf]; exact (Upd.refl _ _).alloc _
  have BF : wf.heap[g0]? = some (.cells #[(.slice a1 n1 q1), (.slice a2 n2 q2)] 91 (0, 0)) := by rw [hwf, hg0]; exact heap_alloc_new w1 _
  rw [← hwf, ← hg0]
  have x0 := cell_of BF 0
  have x1 := cell_of BF 1
  have x0' : wf.cell? ⟨g0, 0, none⟩ = some (.slice a1 n1 q1) := x0
  have x1' : wf.cell? ⟨g0, 1, none⟩ = some (.slice a2 n2 q2) := x1
  have rb : wf.heap[r0]? = some (.cells #[.slice none 0 0, .slice none 0 0] 91 (0, 0)) := ((U1.out.trans UF.out).block r0 (lt_of_block RA.out) id).trans RA.out
  have f0 := free_of rb 0
  have f1 := free_of rb 1
  have y0 : wf.cell? ⟨r0, 0, none⟩ = some (.slice none 0 0) := cell_of rb 0
  have y1 : wf.cell? ⟨r0, 1, none⟩ = some (.slice none 0 0) := cell_of rb 1
  have RB := Lib.hid rb
  have hne : ∀ (g : Nat) (xs : List Int) (v : Value), Pr.OwnV w1 wa.heap.size v xs → ∀ g, v.ownBlock = some g → ¬ oneBlock r0 g := fun _ xs v hv g hg e => by
    have h1 := (hv.lt g hg).1
    have h2 := lt_of_block RA.out
    have e2 : g = r0 := e
    omega
  have o1 := O1.out.grow UF.out
  have o2 := O2.out.grow UF.out
  have u3 : Upd (oneBlock r0) wf ((wf.setCell ⟨r0, 0, none⟩ (.slice a1 n1 q1)).setCell ⟨r0, 1, none⟩ (.slice a2 n2 q2)) := ((Upd.refl (oneBlock r0) wf).setCell (p := ⟨r0, 0, none⟩) (.inl rfl) _).setCell (p := ⟨r0, 1, none⟩) (.inl rfl) _
  have P1 := Lib.hid ((o1.upd u3 (hne 0 _ _ O1.out)).more UA.out.size)
  have P2 := Lib.hid ((o2.upd u3 (hne 0 _ _ O2.out)).more UA.out.size)
  have U3 : Hid (Upd noBlock w ((wf.setCell ⟨r0, 0, none⟩ (.slice a1 n1 q1)).setCell ⟨r0, 1, none⟩ (.slice a2 n2 q2))) := (((UA.out.trans U1.out).trans UF.out).setCell (p := ⟨r0, 0, none⟩) (.inr HR0.out) _).setCell (p := ⟨r0, 1, none⟩) (.inr HR0.out) _
  have R3 : Hid (((wf.setCell ⟨r0, 0, none⟩ (.slice a1 n1 q1)).setCell ⟨r0, 1, none⟩ (.slice a2 n2 q2)).heap[r0]? = some (.cells #[(.slice a1 n1 q1), (.slice a2 n2 q2)] 91 (0, 0))) := block_set (block_set rb (.slice a1 n1 q1)) (.slice a2 n2 q2)
  clear hwf hg0 hne o1 o2 u3 rb x0 x1 BF c0 c1 c2 c3 c4 c5 c6 p1'
  go_wp2_with fail
  exact bodyPost_ret_by (results_cell_row rfl _ _ r0 _ _ _ _ rfl R3.out Tryz.underlying91 rfl planInfo) rfl ⟨_, _, rfl, P1.out, P2.out, U3.out⟩
set_option maxRecDepth 100000 in
theorem roomOf_any (a : Option Addr) (n c : Nat) (v2 : Value) (w : World) (hn : n ≤ 64) :
    Calls Tryz.prog 47 #[.agg #[.slice a n c, v2]] w fun e w' => e = .returned (.int .i64 ((n : Int) - 1)) ∧ Upd noBlock w w' := by
  have hw : IntKind.i64.wrap ((n : Int) - 1) = (n : Int) - 1 := by rw [IntKind.wrap_i64]; omega
  have x0 : (w.alloc (.cells #[.slice a n c, v2] 91)).cell? ⟨w.heap.size, 0, none⟩ = some (.slice a n c) := cell_of (heap_alloc_new w _) 0
  go_enter Tryz.func47, Tryz.ntmps47
  go_wp2
  go_ret
  exact ⟨rfl, (Upd.refl _ _).alloc _⟩
end
end Go.Proofs.YtoledgpcgjdjjaaGreatDoor

/- Labels: payload. -/
namespace Go.Proofs.YtoledgpcgjdjjaaGreatDoor
open F
open Go.RowKit Pm Cm Pr
set_option linter.unusedVariables false
attribute [local irreducible] openL decUp empUp Lib.onesCount parT sealed beZ valN

def flagN (s c : Bool) : Nat := (if s = true then 1 else 0) + (if c = true then 2 else 0)
def labelL (id turn : Int) (s c : Bool) : List UInt8 := 76 :: (joinZ 8 [id, turn] ++ joinZ 1 [((flagN s c : Nat) : Int)])
theorem labelL_length (id turn : Int) (s c : Bool) : (labelL id turn s c).length = 18 := by
  unfold labelL
  rw [List.length_cons, List.length_append, joinZ_length, joinZ_length]; rfl
theorem or01 : bits .or .i64 0 1 = 1 := by decide
theorem or02 : bits .or .i64 0 2 = 2 := by decide
theorem or12 : bits .or .i64 1 2 = 3 := by decide
set_option maxRecDepth 100000 in
set_option maxHeartbeats 1600000 in
theorem labelPay_any (id turn : Int) (s c : Bool) (w : World) :
    Calls Tryz.prog 93 #[.agg #[.int .i64 id, .int .i64 turn, .bool s, .bool c]] w fun e w' => e = .returned (.string ⟨(labelL id turn s c).toArray⟩) ∧ Upd noBlock w w' := by
  obtain ⟨t1, ht1⟩ : ∃ t1 : ByteArray, ⟨(joinZ 8 [id, turn]).toArray⟩ = t1 := ⟨_, rfl⟩
  obtain ⟨t2, ht2⟩ : ∃ t2 : ByteArray, ⟨(joinZ 1 [((flagN s c : Nat) : Int)]).toArray⟩ = t2 := ⟨_, rfl⟩
  have s1 : t1.size = 16 := by
    rw [← ht1]
    show (joinZ 8 [id, turn]).toArray.size = 16
    rw [List.size_toArray, joinZ_length]; rfl
  have s2 : t2.size = 1 := by
    rw [← ht2]
    show (joinZ 1 [((flagN s c : Nat) : Int)]).toArray.size = 1
    rw [List.size_toArray, joinZ_length]; rfl
  have hres : (⟨#[76]⟩ : ByteArray) ++ t1 ++ t2 = ⟨(labelL id turn s c).toArray⟩ := by
    rw [← ht1, ← ht2]
    apply ByteArray.ext; apply Array.ext'
    simp [labelL]
  have a1 : (⟨#[76]⟩ : ByteArray).size + t1.size ≤ 9223372036854775807 := by rw [s1]; decide
  have a2 : ((⟨#[76]⟩ : ByteArray) ++ t1).size + t2.size ≤ 9223372036854775807 := by rw [ByteArray.size_append, s1, s2]; decide
  obtain ⟨fl, hfl⟩ : ∃ fl : Int, fl = ((flagN s c : Nat) : Int) := ⟨_, rfl⟩
  have HJ1 : Hid (∀ W : World, Calls Tryz.prog 118 #[.int .i64 8, .slice (some ⟨W.heap.size, 0, none⟩) 2 2] (W.alloc (.cells #[.int .i64 id, .int .i64 turn] 3)) fun e w' => e = .returned (.string t1) ∧ Upd noBlock (W.alloc (.cells #[.int .i64 id, .int .i64 turn] 3)) w') := fun W => by
    rw [← ht1]
    refine Lb.JoinL 8 (by decide) 8 rfl [id, turn] (by show 2 ≤ 1000; decide) 2 rfl W.heap.size _ fun i hi => ?_
    rw [cell_of (heap_alloc_new W _)]
    have hi2 : i < 2 := hi
    match i, hi2 with
    | 0, _ => rfl
    | 1, _ => rfl
  have HJ2 : Hid (∀ W : World, Calls Tryz.prog 118 #[.int .i64 1, .slice (some ⟨W.heap.size, 0, none⟩) 1 1] (W.alloc (.cells #[.int .i64 fl] 3)) fun e w' => e = .returned (.string t2) ∧ Upd noBlock (W.alloc (.cells #[.int .i64 fl] 3)) w') := fun W => by
    rw [← ht2, ← hfl]
    refine Lb.JoinL 1 (by decide) 1 rfl [fl] (by show 1 ≤ 1000; decide) 1 rfl W.heap.size _ fun i hi => ?_
    rw [cell_of (heap_alloc_new W _)]
    have hi2 : i < 1 := hi
    match i, hi2 with
    | 0, _ => rfl
  obtain ⟨wl, hwl⟩ : ∃ wl, wl = w.alloc (.cells #[.int .i64 id, .int .i64 turn, .bool s, .bool c] 89) := ⟨_, rfl⟩
  have UL : Hid (Upd noBlock w wl) := by rw [hwl]; exact (Upd.refl _ _).alloc _
  have bl : wl.heap[w.heap.size]? = some (.cells #[.int .i64 id, .int .i64 turn, .bool s, .bool c] 89 (0, 0)) := by rw [hwl]; exact heap_alloc_new w _
  have y0 : wl.cell? ⟨w.heap.size, 0, none⟩ = some (.int .i64 id) := cell_of bl 0
  have y1 : wl.cell? ⟨w.heap.size, 1, none⟩ = some (.int .i64 turn) := cell_of bl 1
  have y2 : wl.cell? ⟨w.heap.size, 2, none⟩ = some (.bool s) := cell_of bl 2
  have y3 : wl.cell? ⟨w.heap.size, 3, none⟩ = some (.bool c) := cell_of bl 3
  have HRES := Lib.hid hres
  clear hres ht1 ht2 s1 s2 bl
  have o1 := or01
  have o2 := or02
  have o3 := or12
  go_enter Tryz.func93, Tryz.ntmps93
  go_upto_region 1 with fail
  rw [← hwl]
  clear hwl
  generalize w.heap.size = g at *
  cases s <;> cases c
  · skip
    obtain rfl : fl = 0 := by rw [hfl]; decide
    clear hfl
    go_wp2_with (first
      | (go_at_call 118; (with_reducible refine (HJ1.out _).mono ?_); rintro e w5 ⟨rfl, hu⟩; have U5 := Lib.hid (((UL.out.alloc _).trans hu)); clear hu)
      | (go_at_call 118; (with_reducible refine (HJ2.out _).mono ?_); rintro e w6 ⟨rfl, hu⟩; have U6 := Lib.hid (((U5.out.alloc _).trans hu)); clear hu))
    go_ret
    exact ⟨congrArg (fun b => Ending.returned (Value.string b)) HRES.out, U6.out⟩
  · skip
    obtain rfl : fl = 2 := by rw [hfl]; decide
    clear hfl
    go_wp2_with (first
      | (go_at_call 118; (with_reducible refine (HJ1.out _).mono ?_); rintro e w5 ⟨rfl, hu⟩; have U5 := Lib.hid (((UL.out.alloc _).trans hu)); clear hu)
      | (go_at_call 118; (with_reducible refine (HJ2.out _).mono ?_); rintro e w6 ⟨rfl, hu⟩; have U6 := Lib.hid (((U5.out.alloc _).trans hu)); clear hu))
    go_ret
    exact ⟨congrArg (fun b => Ending.returned (Value.string b)) HRES.out, U6.out⟩
  · skip
    obtain rfl : fl = 1 := by rw [hfl]; decide
    clear hfl
    go_wp2_with (first
      | (go_at_call 118; (with_reducible refine (HJ1.out _).mono ?_); rintro e w5 ⟨rfl, hu⟩; have U5 := Lib.hid (((UL.out.alloc _).trans hu)); clear hu)
      | (go_at_call 118; (with_reducible refine (HJ2.out _).mono ?_); rintro e w6 ⟨rfl, hu⟩; have U6 := Lib.hid (((U5.out.alloc _).trans hu)); clear hu))
    go_ret
    exact ⟨congrArg (fun b => Ending.returned (Value.string b)) HRES.out, U6.out⟩
  · skip
    obtain rfl : fl = 3 := by rw [hfl]; decide
    clear hfl
    go_wp2_with (first
      | (go_at_call 118; (with_reducible refine (HJ1.out _).mono ?_); rintro e w5 ⟨rfl, hu⟩; have U5 := Lib.hid (((UL.out.alloc _).trans hu)); clear hu)
      | (go_at_call 118; (with_reducible refine (HJ2.out _).mono ?_); rintro e w6 ⟨rfl, hu⟩; have U6 := Lib.hid (((U5.out.alloc _).trans hu)); clear hu))
    go_ret
    exact ⟨congrArg (fun b => Ending.returned (Value.string b)) HRES.out, U6.out⟩
end Go.Proofs.YtoledgpcgjdjjaaGreatDoor

/- The plain steps of a volume: write, erase, the first page; writeFirst. -/
namespace Go.Proofs.YtoledgpcgjdjjaaGreatDoor
open F
open Go.RowKit Pm Cm Pr
set_option linter.unusedVariables false
attribute [local irreducible] openL decUp empUp Lib.onesCount parT sealed beZ valN

structure Out where
  e : Int
  V : Vo
  M : Ch
def wrP (A : Vp) (V : Vo) (M : Ch) (b p : Nat) (l : List UInt8) : Out :=
  if V.off = true then ⟨20, V, M⟩ else ⟨M.progE b p, toldV V b (M.progE b p), M.progM b p (pageL A.t A.k A.c l)⟩
def erP (V : Vo) (M : Ch) (b : Nat) : Out :=
  if V.off = true then ⟨20, V, M⟩ else ⟨M.eraseE b, toldV V b (M.eraseE b), M.eraseM b⟩
def firstP (A : Vp) (V : Vo) (M : Ch) (b : Nat) (l : List UInt8) : Out :=
  if (wrP A V M b 0 l).e ≠ 21 then wrP A V M b 0 l
  else if (erP (wrP A V M b 0 l).V (wrP A V M b 0 l).M b).e ≠ 0 then erP (wrP A V M b 0 l).V (wrP A V M b 0 l).M b
  else wrP A (erP (wrP A V M b 0 l).V (wrP A V M b 0 l).M b).V (erP (wrP A V M b 0 l).V (wrP A V M b 0 l).M b).M b 0 l
structure Keeps (M M' : Ch) (k : Nat) : Prop where
  nb : M'.nb = M.nb
  np : M'.np = M.np
  sz : M'.sz = M.sz
  fit : ∀ n, M.Fit n → M'.Fit (n + k)
theorem Keeps.refl (M : Ch) : Keeps M M 0 := ⟨rfl, rfl, rfl, fun n h => h⟩
theorem Keeps.trans {M M' M2 : Ch} {k k' : Nat} (h : Keeps M M' k) (h' : Keeps M' M2 k') : Keeps M M2 (k + k') :=
  ⟨h'.nb.trans h.nb, h'.np.trans h.np, h'.sz.trans h.sz, fun n hn => by rw [← Nat.add_assoc]; exact h'.fit _ (h.fit _ hn)⟩
theorem Keeps.more {M M' : Ch} {k k' : Nat} (h : Keeps M M' k) (hk : k ≤ k') : Keeps M M' k' := ⟨h.nb, h.np, h.sz, fun n hn => (h.fit n hn).mono (by omega)⟩
theorem wrP_keeps (A : Vp) (V : Vo) (M : Ch) (b p : Nat) (l : List UInt8) : Keeps M (wrP A V M b p l).M 1 := by
  unfold wrP
  split
  · exact (Keeps.refl M).more (by omega)
  · obtain ⟨h1, h2, h3⟩ := progM_shape M b p (pageL A.t A.k A.c l)
    exact ⟨h1, h2, h3, fun n hn => hn.prog b p _⟩
theorem erP_keeps (V : Vo) (M : Ch) (b : Nat) : Keeps M (erP V M b).M 1 := by
  unfold erP
  split
  · exact (Keeps.refl M).more (by omega)
  · obtain ⟨h1, h2, h3⟩ := eraseM_shape M b
    exact ⟨h1, h2, h3, fun n hn => hn.erase b⟩
theorem firstP_keeps (A : Vp) (V : Vo) (M : Ch) (b : Nat) (l : List UInt8) : Keeps M (firstP A V M b l).M 3 := by
  unfold firstP
  split
  · exact (wrP_keeps A V M b 0 l).more (by omega)
  · split
    · exact ((wrP_keeps A V M b 0 l).trans (erP_keeps _ _ b)).more (by omega)
    · exact (((wrP_keeps A V M b 0 l).trans (erP_keeps _ _ b)).trans (wrP_keeps A _ _ b 0 l)).more (by omega)
structure VGo (w : World) (A : Vp) (M : Ch) (O : Out) (w' : World) : Prop where
  v : VolIn w' A O.M O.V
  u : Upd (VOwn A M.nb) w w'
section
variable {A : Vp} {M : Ch} {V : Vo} {w : World}
theorem VOwn.same {nb nb' : Nat} {a c : World} (e : nb' = nb) (h : Upd (VOwn A nb') a c) : Upd (VOwn A nb) a c := by subst e; exact h
theorem vwrite_any (b p n : Nat) (x y : Int) (hx : x = (b : Int)) (hy : y = (p : Int)) (s : ByteArray) (h : VolIn w A M V) (hT : Tab w) (hF : M.Fit n) (hn : n < 4611686018427387904) (hb : b < M.nb) (hp : p < M.np) (hs : s.size ≤ A.room) :
    Calls Tryz.prog 82 #[.pointer (some ⟨A.v, 0, none⟩), .int .i64 x, .int .i64 y, .string s] w fun r w' => r = .returned (.int .i64 (wrP A V M b p s.data.toList).e) ∧ VGo w A M (wrP A V M b p s.data.toList) w' := by
  subst hx hy
  unfold wrP
  cases ho : V.off with
  | true =>
    rw [if_pos rfl]
    exact (vwrite_off _ _ s h ho).mono fun r w' ⟨hr, hw⟩ => by subst hw; exact ⟨hr, h, Upd.refl _ _⟩
  | false =>
    rw [if_neg (by decide)]
    exact (vwrite_on b p n s h hT ho hF hn hb hp hs).mono fun r w' ⟨hr, hv, hu⟩ => ⟨hr, hv, hu⟩
theorem verase_any (b n : Nat) (x : Int) (hx : x = (b : Int)) (h : VolIn w A M V) (hF : M.Fit n) (hn : n < 4611686018427387904) (hb : b < M.nb) :
    Calls Tryz.prog 42 #[.pointer (some ⟨A.v, 0, none⟩), .int .i64 x] w fun r w' => r = .returned (.int .i64 (erP V M b).e) ∧ VGo w A M (erP V M b) w' := by
  subst hx
  unfold erP
  cases ho : V.off with
  | true =>
    rw [if_pos rfl]
    exact (verase_off _ h ho).mono fun r w' ⟨hr, hw⟩ => by subst hw; exact ⟨hr, h, Upd.refl _ _⟩
  | false =>
    rw [if_neg (by decide)]
    exact (verase_on b n h ho hF hn hb).mono fun r w' ⟨hr, hv, hu⟩ => ⟨hr, hv, hu⟩
set_option maxRecDepth 100000 in
set_option maxHeartbeats 3200000 in
theorem writeFirst_any (b n : Nat) (s : ByteArray) (h : VolIn w A M V) (hT : ∀ W, Upd (VOwn A M.nb) w W → Tab W) (hF : M.Fit n) (hn : n < 4000000000000000000) (hb : b < M.nb) (hs : s.size ≤ A.room) :
    Calls Tryz.prog 92 #[.pointer (some ⟨A.v, 0, none⟩), .int .i64 (b : Int), .string s] w fun r w' => r = .returned (.int .i64 (firstP A V M b s.data.toList).e) ∧ VGo w A M (firstP A V M b s.data.toList) w' := by
  have hp0 : 0 < M.np := by have := h.np4; omega
  have HW1 := Lib.hid (vwrite_any b 0 n (b : Int) 0 rfl rfl s h (hT _ (Upd.refl _ _)) hF (by omega) hb hp0 hs)
  have K1 := wrP_keeps A V M b 0 s.data.toList
  have HW2 : Hid (∀ W, VGo w A M (wrP A V M b 0 s.data.toList) W → Calls Tryz.prog 42 #[.pointer (some ⟨A.v, 0, none⟩), .int .i64 (b : Int)] W fun r w' => r = .returned (.int .i64 (erP (wrP A V M b 0 s.data.toList).V (wrP A V M b 0 s.data.toList).M b).e) ∧ VGo w A M (erP (wrP A V M b 0 s.data.toList).V (wrP A V M b 0 s.data.toList).M b) w') := fun W hW =>
    (verase_any b (n + 1) (b : Int) rfl hW.v (K1.fit n hF) (by omega) (by rw [K1.nb]; exact hb)).mono fun r w' ⟨hr, hv⟩ => ⟨hr, hv.v, hW.u.trans (VOwn.same K1.nb hv.u)⟩
  have K2 := K1.trans (erP_keeps (wrP A V M b 0 s.data.toList).V (wrP A V M b 0 s.data.toList).M b)
  have HW3 : Hid (∀ W, VGo w A M (erP (wrP A V M b 0 s.data.toList).V (wrP A V M b 0 s.data.toList).M b) W → Calls Tryz.prog 82 #[.pointer (some ⟨A.v, 0, none⟩), .int .i64 (b : Int), .int .i64 0, .string s] W fun r w' => r = .returned (.int .i64 (wrP A (erP (wrP A V M b 0 s.data.toList).V (wrP A V M b 0 s.data.toList).M b).V (erP (wrP A V M b 0 s.data.toList).V (wrP A V M b 0 s.data.toList).M b).M b 0 s.data.toList).e) ∧ VGo w A M (wrP A (erP (wrP A V M b 0 s.data.toList).V (wrP A V M b 0 s.data.toList).M b).V (erP (wrP A V M b 0 s.data.toList).V (wrP A V M b 0 s.data.toList).M b).M b 0 s.data.toList) w') := fun W hW =>
    (vwrite_any b 0 (n + (1 + 1)) (b : Int) 0 rfl rfl s hW.v (hT _ hW.u) (K2.fit n hF) (by omega) (by rw [K2.nb]; exact hb) (by rw [K2.np]; exact hp0) hs).mono fun r w' ⟨hr, hv⟩ => ⟨hr, hv.v, hW.u.trans (VOwn.same K2.nb hv.u)⟩
  unfold firstP
  generalize wrP A (erP (wrP A V M b 0 s.data.toList).V (wrP A V M b 0 s.data.toList).M b).V (erP (wrP A V M b 0 s.data.toList).V (wrP A V M b 0 s.data.toList).M b).M b 0 s.data.toList = O3 at *
  generalize erP (wrP A V M b 0 s.data.toList).V (wrP A V M b 0 s.data.toList).M b = O2 at *
  generalize wrP A V M b 0 s.data.toList = O1 at *
  obtain ⟨e1, V1, M1⟩ := O1
  obtain ⟨e2, V2, M2⟩ := O2
  simp only at *
  clear h hT hF hb hp0 K1 K2 hn hs
  by_cases d1 : e1 = 21
  · subst d1
    rw [if_neg (by decide)]
    by_cases d2 : e2 = 0
    · subst d2
      rw [if_neg (by decide)]
      go_enter Tryz.func92, Tryz.ntmps92
      go_wp2_with (first
        | (go_at_call 82; (with_reducible refine HW1.out.mono ?_); rintro r w1 ⟨rfl, hv⟩; have G1 := Lib.hid hv; clear hv)
        | (go_at_call 42; (with_reducible refine (HW2.out _ G1.out).mono ?_); rintro r w2 ⟨rfl, hv⟩; have G2 := Lib.hid hv; clear hv)
        | (go_at_call 82; (with_reducible refine (HW3.out _ G2.out).mono ?_); rintro r w3 ⟨rfl, hv⟩; have G3 := Lib.hid hv; clear hv))
      go_ret
      exact ⟨rfl, G3.out⟩
    · rw [if_pos d2]
      have b2 : (e2 != 0) = true := bne_iff_ne.2 d2
      go_enter Tryz.func92, Tryz.ntmps92
      go_wp2_with (first
        | (go_at_call 82; (with_reducible refine HW1.out.mono ?_); rintro r w1 ⟨rfl, hv⟩; have G1 := Lib.hid hv; clear hv)
        | (go_at_call 42; (with_reducible refine (HW2.out _ G1.out).mono ?_); rintro r w2 ⟨rfl, hv⟩; have G2 := Lib.hid hv; clear hv))
      go_ret
      exact ⟨rfl, G2.out⟩
  · rw [if_pos d1]
    have b1 : (e1 != 21) = true := bne_iff_ne.2 d1
    go_enter Tryz.func92, Tryz.ntmps92
    go_wp2_with (first
      | (go_at_call 82; (with_reducible refine HW1.out.mono ?_); rintro r w1 ⟨rfl, hv⟩; have G1 := Lib.hid hv; clear hv))
    go_ret
    exact ⟨rfl, G1.out⟩
end
end Go.Proofs.YtoledgpcgjdjjaaGreatDoor

/- A logical block as it is kept: its twelve cells; begin. -/
namespace Go.Proofs.YtoledgpcgjdjjaaGreatDoor
open F
open Go.RowKit Pm Cm Pr
set_option linter.unusedVariables false
attribute [local irreducible] openL decUp empUp Lib.onesCount parT sealed beZ valN

structure Sd where
  id : Int
  turn : Int
  s : Bool
  c : Bool
  b : Nat
  D : Value
  P : Value
  pages : Nat
  cl : Bool
  gd : Bool
  s0 : ByteArray
  s1 : ByteArray
def sdC (x : Sd) : Array Value := #[.int .i64 x.id, .int .i64 x.turn, .bool x.s, .bool x.c, .int .i64 (x.b : Int), x.D, x.P, .int .i64 (x.pages : Int), .bool x.cl, .bool x.gd, .string x.s0, .string x.s1]
def sdZ : Array Value := #[.int .i64 0, .int .i64 0, .bool false, .bool false, .int .i64 0, .slice none 0 0, .slice none 0 0, .int .i64 0, .bool false, .bool false, .string ⟨#[]⟩, .string ⟨#[]⟩]
theorem sdInfo : (Tryz.prog.info? 94).map (·.size) = some 12 := by kernel_rfl
def set12C (W : World) (g : Nat) (x0 x1 x2 x3 x4 x5 x6 x7 x8 x9 xa xb : Value) : World :=
  (((((((((((W.setCell ⟨g, 0, none⟩ x0).setCell ⟨g, 1, none⟩ x1).setCell ⟨g, 2, none⟩ x2).setCell ⟨g, 3, none⟩ x3).setCell ⟨g, 4, none⟩ x4).setCell ⟨g, 5, none⟩ x5).setCell ⟨g, 6, none⟩ x6).setCell ⟨g, 7, none⟩ x7).setCell ⟨g, 8, none⟩ x8).setCell ⟨g, 9, none⟩ x9).setCell ⟨g, 10, none⟩ xa).setCell ⟨g, 11, none⟩ xb
theorem set12C_at {W : World} {g : Nat} {T : TypeId} {a0 a1 a2 a3 a4 a5 a6 a7 a8 a9 aa ab x0 x1 x2 x3 x4 x5 x6 x7 x8 x9 xa xb : Value} (h : W.heap[g]? = some (.cells #[a0, a1, a2, a3, a4, a5, a6, a7, a8, a9, aa, ab] T (0, 0))) :
    (set12C W g x0 x1 x2 x3 x4 x5 x6 x7 x8 x9 xa xb).heap[g]? = some (.cells #[x0, x1, x2, x3, x4, x5, x6, x7, x8, x9, xa, xb] T (0, 0)) :=
  by
  unfold set12C
  have h0 : (W.setCell ⟨g, 0, none⟩ x0).heap[g]? = some (.cells #[x0, a1, a2, a3, a4, a5, a6, a7, a8, a9, aa, ab] T (0, 0)) := block_set h x0
  generalize W.setCell ⟨g, 0, none⟩ x0 = W0 at *
  have h1 : (W0.setCell ⟨g, 1, none⟩ x1).heap[g]? = some (.cells #[x0, x1, a2, a3, a4, a5, a6, a7, a8, a9, aa, ab] T (0, 0)) := block_set h0 x1
  generalize W0.setCell ⟨g, 1, none⟩ x1 = W1 at *
  have h2 : (W1.setCell ⟨g, 2, none⟩ x2).heap[g]? = some (.cells #[x0, x1, x2, a3, a4, a5, a6, a7, a8, a9, aa, ab] T (0, 0)) := block_set h1 x2
  generalize W1.setCell ⟨g, 2, none⟩ x2 = W2 at *
  have h3 : (W2.setCell ⟨g, 3, none⟩ x3).heap[g]? = some (.cells #[x0, x1, x2, x3, a4, a5, a6, a7, a8, a9, aa, ab] T (0, 0)) := block_set h2 x3
  generalize W2.setCell ⟨g, 3, none⟩ x3 = W3 at *
  have h4 : (W3.setCell ⟨g, 4, none⟩ x4).heap[g]? = some (.cells #[x0, x1, x2, x3, x4, a5, a6, a7, a8, a9, aa, ab] T (0, 0)) := block_set h3 x4
  generalize W3.setCell ⟨g, 4, none⟩ x4 = W4 at *
  have h5 : (W4.setCell ⟨g, 5, none⟩ x5).heap[g]? = some (.cells #[x0, x1, x2, x3, x4, x5, a6, a7, a8, a9, aa, ab] T (0, 0)) := block_set h4 x5
  generalize W4.setCell ⟨g, 5, none⟩ x5 = W5 at *
  have h6 : (W5.setCell ⟨g, 6, none⟩ x6).heap[g]? = some (.cells #[x0, x1, x2, x3, x4, x5, x6, a7, a8, a9, aa, ab] T (0, 0)) := block_set h5 x6
  generalize W5.setCell ⟨g, 6, none⟩ x6 = W6 at *
  have h7 : (W6.setCell ⟨g, 7, none⟩ x7).heap[g]? = some (.cells #[x0, x1, x2, x3, x4, x5, x6, x7, a8, a9, aa, ab] T (0, 0)) := block_set h6 x7
  generalize W6.setCell ⟨g, 7, none⟩ x7 = W7 at *
  have h8 : (W7.setCell ⟨g, 8, none⟩ x8).heap[g]? = some (.cells #[x0, x1, x2, x3, x4, x5, x6, x7, x8, a9, aa, ab] T (0, 0)) := block_set h7 x8
  generalize W7.setCell ⟨g, 8, none⟩ x8 = W8 at *
  have h9 : (W8.setCell ⟨g, 9, none⟩ x9).heap[g]? = some (.cells #[x0, x1, x2, x3, x4, x5, x6, x7, x8, x9, aa, ab] T (0, 0)) := block_set h8 x9
  generalize W8.setCell ⟨g, 9, none⟩ x9 = W9 at *
  have h10 : (W9.setCell ⟨g, 10, none⟩ xa).heap[g]? = some (.cells #[x0, x1, x2, x3, x4, x5, x6, x7, x8, x9, xa, ab] T (0, 0)) := block_set h9 xa
  generalize W9.setCell ⟨g, 10, none⟩ xa = W10 at *
  have h11 : (W10.setCell ⟨g, 11, none⟩ xb).heap[g]? = some (.cells #[x0, x1, x2, x3, x4, x5, x6, x7, x8, x9, xa, xb] T (0, 0)) := block_set h10 xb
  exact h11
theorem set12C_upd (W : World) (g : Nat) (x0 x1 x2 x3 x4 x5 x6 x7 x8 x9 xa xb : Value) : Upd (oneBlock g) W (set12C W g x0 x1 x2 x3 x4 x5 x6 x7 x8 x9 xa xb) := by
  unfold set12C
  exact (((((((((((((Upd.refl (oneBlock g) W).setCell (p := ⟨g, 0, none⟩) (.inl rfl) _).setCell (p := ⟨g, 1, none⟩) (.inl rfl) _).setCell (p := ⟨g, 2, none⟩) (.inl rfl) _).setCell (p := ⟨g, 3, none⟩) (.inl rfl) _).setCell (p := ⟨g, 4, none⟩) (.inl rfl) _).setCell (p := ⟨g, 5, none⟩) (.inl rfl) _).setCell (p := ⟨g, 6, none⟩) (.inl rfl) _).setCell (p := ⟨g, 7, none⟩) (.inl rfl) _).setCell (p := ⟨g, 8, none⟩) (.inl rfl) _).setCell (p := ⟨g, 9, none⟩) (.inl rfl) _).setCell (p := ⟨g, 10, none⟩) (.inl rfl) _).setCell (p := ⟨g, 11, none⟩) (.inl rfl) _)
theorem cells12 {W : World} {g : Nat} {T : TypeId} {a0 a1 a2 a3 a4 a5 a6 a7 a8 a9 aa ab : Value} (h : W.heap[g]? = some (.cells #[a0, a1, a2, a3, a4, a5, a6, a7, a8, a9, aa, ab] T (0, 0))) :
    W.cell? ⟨g, 0, none⟩ = some a0 ∧ W.cell? ⟨g, 1, none⟩ = some a1 ∧ W.cell? ⟨g, 2, none⟩ = some a2 ∧ W.cell? ⟨g, 3, none⟩ = some a3 ∧ W.cell? ⟨g, 4, none⟩ = some a4 ∧ W.cell? ⟨g, 5, none⟩ = some a5 ∧ W.cell? ⟨g, 6, none⟩ = some a6 ∧ W.cell? ⟨g, 7, none⟩ = some a7 ∧ W.cell? ⟨g, 8, none⟩ = some a8 ∧ W.cell? ⟨g, 9, none⟩ = some a9 ∧ W.cell? ⟨g, 10, none⟩ = some aa ∧ W.cell? ⟨g, 11, none⟩ = some ab :=
  ⟨cell_of h 0, cell_of h 1, cell_of h 2, cell_of h 3, cell_of h 4, cell_of h 5, cell_of h 6, cell_of h 7, cell_of h 8, cell_of h 9, cell_of h 10, cell_of h 11⟩
theorem frees12 {W : World} {g : Nat} {T : TypeId} {a : Array Value} (h : W.heap[g]? = some (.cells a T (0, 0))) :
    W.frozen? ⟨g, 0, none⟩ = false ∧ W.frozen? ⟨g, 1, none⟩ = false ∧ W.frozen? ⟨g, 2, none⟩ = false ∧ W.frozen? ⟨g, 3, none⟩ = false ∧ W.frozen? ⟨g, 4, none⟩ = false ∧ W.frozen? ⟨g, 5, none⟩ = false ∧ W.frozen? ⟨g, 6, none⟩ = false ∧ W.frozen? ⟨g, 7, none⟩ = false ∧ W.frozen? ⟨g, 8, none⟩ = false ∧ W.frozen? ⟨g, 9, none⟩ = false ∧ W.frozen? ⟨g, 10, none⟩ = false ∧ W.frozen? ⟨g, 11, none⟩ = false :=
  ⟨free_of h 0, free_of h 1, free_of h 2, free_of h 3, free_of h 4, free_of h 5, free_of h 6, free_of h 7, free_of h 8, free_of h 9, free_of h 10, free_of h 11⟩
section
variable {A : Vp} {M : Ch} {V : Vo} {w w' : World}
theorem VolIn.keepT (T : TypeId) (hT : ¬ T = 81 ∧ ¬ T = 4 ∧ ¬ T = 125 ∧ ¬ T = 132 ∧ ¬ T = 147 ∧ ¬ T = 177) (h : VolIn w A M V) (hu : Upd (VOwn A M.nb) w w') (i : Nat) (a : Array Value) (hg : w.heap[i]? = some (.cells a T (0, 0))) : w'.heap[i]? = some (.cells a T (0, 0)) := by
  refine (hu.block i (lt_of_block hg) (fun e => ?_)).trans hg
  rcases e with e | e | e | e
  · exact apart hg h.top hT.1 e
  · exact cells_map hg h.map e
  · obtain ⟨x, hx⟩ := h.wb_block
    exact apart hg hx hT.2.1 e
  · obtain ⟨a2, T2, hT2, ht⟩ := POwn.block h.pgr e
    refine apart hg hT2 ?_ rfl
    rcases ht with rfl | rfl | rfl | rfl
    · exact hT.2.2.1
    · exact hT.2.2.2.1
    · exact hT.2.2.2.2.1
    · exact hT.2.2.2.2.2
theorem VolIn.ownV (h : VolIn w A M V) (hu : Upd (VOwn A M.nb) w w') {B : Nat} {v : Value} {xs : List Int} (ho : Pr.OwnV w B v xs) : Pr.OwnV w' B v xs := by
  obtain ⟨hl, h1⟩ := ho
  refine ⟨hl, ?_⟩
  rcases h1 with ⟨h1, h2⟩ | ⟨g, cap, cur, rfl, hb, hg, r⟩
  · exact .inl ⟨h1, h2⟩
  · exact .inr ⟨g, cap, cur, rfl, hb, h.keepT _ (by decide) hu g _ hg, r⟩
def beginP (A : Vp) (V : Vo) (M : Ch) (b : Nat) (id : Int) (s c : Bool) : Out :=
  if (firstP A V M b (labelL id ((V.turn + 1 : Nat) : Int) s c)).e ≠ 0 then firstP A V M b (labelL id ((V.turn + 1 : Nat) : Int) s c)
  else ⟨0, { (firstP A V M b (labelL id ((V.turn + 1 : Nat) : Int) s c)).V with turn := V.turn + 1 }, (firstP A V M b (labelL id ((V.turn + 1 : Nat) : Int) s c)).M⟩
end
end Go.Proofs.YtoledgpcgjdjjaaGreatDoor

/- begin walked. -/
namespace Go.Proofs.YtoledgpcgjdjjaaGreatDoor
open F
open Go.RowKit Pm Cm Pr
set_option linter.unusedVariables false
attribute [local irreducible] openL decUp empUp Lib.onesCount parT sealed beZ valN labelL

theorem Pr.OwnV.alien {w w' : World} {B : Nat} {v : Value} {xs : List Int} (h : Pr.OwnV w B v xs) {g : Nat} {T : TypeId} {y : Array Value} (hy : w.heap[g]? = some (.cells y T (0, 0))) (hT : ¬ 3 = T) (hu : Upd (oneBlock g) w w') : Pr.OwnV w' B v xs := by
  obtain ⟨hl, h1⟩ := h
  refine ⟨hl, ?_⟩
  rcases h1 with ⟨h1, h2⟩ | ⟨x, cap, cur, rfl, hb, hx, r⟩
  · exact .inl ⟨h1, h2⟩
  · exact .inr ⟨x, cap, cur, rfl, hb, (hu.block x (lt_of_block hx) (fun e => apart hx hy hT e)).trans hx, r⟩
theorem Upd.past {w W W' : World} {R : Nat → Prop} {r : Nat} (h : Upd R w W) (hu : Upd (oneBlock r) W W') (hr : w.heap.size ≤ r) : Upd R w W' :=
  ⟨hu.os.trans h.os, hu.tape.trans h.tape, hu.output.trans h.output, Nat.le_trans h.size hu.size, fun i hi hn => (hu.block i (Nat.lt_of_lt_of_le hi h.size) (fun e => by have e2 : i = r := e; omega)).trans (h.block i hi hn)⟩
section
variable {A : Vp} {M : Ch} {V : Vo} {w : World}
theorem plan_sl (s : Bool) (h : VolIn w A M V) :
    Calls Tryz.prog 48 #[.pointer (some ⟨A.v, 0, none⟩), .bool s] w fun e w' => ∃ a1 n1 q1 a2 n2 q2, e = .returned (.agg #[.slice a1 n1 q1, .slice a2 n2 q2]) ∧ Pr.OwnV w' w.heap.size (.slice a1 n1 q1) (dl s (M.np - 3)) ∧ Pr.OwnV w' w.heap.size (.slice a2 n2 q2) (parL s M.np) ∧ Upd noBlock w w' :=
  (plan_any s h).mono fun e w' ⟨v1, v2, he, o1, o2, hu⟩ => by
    obtain ⟨a1, q1, rfl, -, -, -⟩ := o1.sl
    obtain ⟨a2, q2, rfl, -, -, -⟩ := o2.sl
    exact ⟨_, _, _, _, _, _, he, o1, o2, hu⟩
def begunD (id : Int) (turn : Nat) (s c : Bool) (b : Nat) (D P : Value) : Sd := ⟨id, (turn : Int), s, c, b, D, P, 0, false, false, ⟨(labelL id (turn : Int) s c).toArray⟩, ⟨#[]⟩⟩
set_option maxRecDepth 100000 in
set_option maxHeartbeats 6400000 in
theorem begin_any (b n : Nat) (id turn0 : Int) (s c : Bool) (h : VolIn w A M V) (hT : ∀ W, Upd (VOwn A M.nb) w W → Tab W) (hF : M.Fit n) (hn : n < 4000000000000000000) (hb : b < M.nb) (hr : 18 ≤ A.room) (ht : V.turn < 4000000000000000000) :
    Calls Tryz.prog 69 #[.pointer (some ⟨A.v, 0, none⟩), .int .i64 (b : Int), .agg #[.int .i64 id, .int .i64 turn0, .bool s, .bool c]] w fun r w' => VGo w A M (beginP A V M b id s c) w' ∧
      (if (beginP A V M b id s c).e = 0 then ∃ D P, r = .returned (.tuple #[.agg (sdC (begunD id (V.turn + 1) s c b D P)), .int .i64 0]) ∧ Pr.OwnV w' w.heap.size D (dl s (M.np - 3)) ∧ Pr.OwnV w' w.heap.size P (parL s M.np)
        else r = .returned (.tuple #[.agg sdZ, .int .i64 (beginP A V M b id s c).e])) := by
  obtain ⟨tn, htn⟩ : ∃ tn, V.turn + 1 = tn := ⟨_, rfl⟩
  have hwt : IntKind.i64.wrap ((V.turn : Int) + 1) = (tn : Int) := by rw [IntKind.wrap_i64]; omega
  obtain ⟨px, hpx⟩ : ∃ px : ByteArray, ⟨(labelL id (tn : Int) s c).toArray⟩ = px := ⟨_, rfl⟩
  have hpl : px.data.toList = labelL id (tn : Int) s c := by rw [← hpx]
  have hps : px.size ≤ A.room := by
    have h9 : px.size = (labelL id (tn : Int) s c).length := by rw [← hpl]; rfl
    rw [h9, labelL_length]; exact hr
  obtain ⟨wa, hwa⟩ : ∃ wa, wa = (w.alloc (.cells #[.int .i64 id, .int .i64 turn0, .bool s, .bool c] 89)).alloc (.cells sdZ 94) := ⟨_, rfl⟩
  obtain ⟨g, hg⟩ : ∃ g, g = w.heap.size := ⟨_, rfl⟩
  obtain ⟨r0, hr0⟩ : ∃ r0, r0 = w.heap.size + 1 := ⟨_, rfl⟩
  have UA : Upd noBlock w wa := by rw [hwa]; exact ((Upd.refl _ _).alloc _).alloc _
  have BG : wa.heap[g]? = some (.cells #[.int .i64 id, .int .i64 turn0, .bool s, .bool c] 89 (0, 0)) := by rw [hwa, hg]; exact block_alloc (heap_alloc_new w _) _
  have BR : wa.heap[r0]? = some (.cells sdZ 94 (0, 0)) := by
    have h9 := heap_alloc_new (w.alloc (.cells #[.int .i64 id, .int .i64 turn0, .bool s, .bool c] 89)) (.cells sdZ 94)
    rw [World.size_alloc] at h9
    rw [hwa, hr0]; exact h9
  obtain ⟨wb, hwb⟩ : ∃ wb, wb = wa.setCell ⟨g, 1, none⟩ (.int .i64 (tn : Int)) := ⟨_, rfl⟩
  have HGS : Hid (w.heap.size ≤ g) := Nat.le_of_eq hg.symm
  have HRS : Hid (w.heap.size ≤ r0) := by show w.heap.size ≤ r0; omega
  have UB : Hid (Upd noBlock w wb) := by rw [hwb]; exact UA.setCell (p := ⟨g, 1, none⟩) (.inr HGS.out) _
  have bgb : wb.heap[g]? = some (.cells #[.int .i64 id, .int .i64 (tn : Int), .bool s, .bool c] 89 (0, 0)) := by rw [hwb]; exact block_set BG _
  have brb : wb.heap[r0]? = some (.cells sdZ 94 (0, 0)) := by rw [hwb]; exact block_set_other BR (by show ¬ r0 = g; omega) _
  have HVB := Lib.hid (h.grow UB.out)
  have HWF : Hid (∀ W, Upd noBlock wb W → Calls Tryz.prog 92 #[.pointer (some ⟨A.v, 0, none⟩), .int .i64 (b : Int), .string px] W fun r w' => r = .returned (.int .i64 (firstP A V M b (labelL id (tn : Int) s c)).e) ∧ VGo W A M (firstP A V M b (labelL id (tn : Int) s c)) w') := fun W hW => by
    have h9 := writeFirst_any b n px (HVB.out.grow hW) (fun X hX => hT X (((UB.out.trans hW).mono (fun _ _ e => e.elim)).trans hX)) hF hn hb hps
    rw [hpl] at h9
    exact h9
  have HPY : Hid (∀ W : World, Calls Tryz.prog 93 #[.agg #[.int .i64 id, .int .i64 (tn : Int), .bool s, .bool c]] W fun e w' => e = .returned (.string px) ∧ Upd noBlock W w') := fun W => by
    have h9 := labelPay_any id (tn : Int) s c W
    rw [hpx] at h9
    exact h9
  have KF := firstP_keeps A V M b (labelL id (tn : Int) s c)
  have HKF := Lib.hid KF
  unfold beginP begunD
  rw [htn, hpx]
  obtain ⟨O, hO⟩ : ∃ O, firstP A V M b (labelL id (tn : Int) s c) = O := ⟨_, rfl⟩
  rw [hO] at HWF HKF ⊢
  obtain ⟨e, V1, M1⟩ := O
  simp only at *
  have HBG := Lib.hid bgb
  have HBR := Lib.hid brb
  have cg0 : wa.cell? ⟨g, 1, none⟩ = some (.int .i64 turn0) := cell_of BG 1
  have fg0 := free_of BG 1
  obtain ⟨c0, c1, c2, c3, c4, c5, c6⟩ := (h.grow UA).cells
  have x0 : wb.cell? ⟨g, 0, none⟩ = some (.int .i64 id) := cell_of bgb 0
  have x1 : wb.cell? ⟨g, 1, none⟩ = some (.int .i64 (tn : Int)) := cell_of bgb 1
  have x2 : wb.cell? ⟨g, 2, none⟩ = some (.bool s) := cell_of bgb 2
  have x3 : wb.cell? ⟨g, 3, none⟩ = some (.bool c) := cell_of bgb 3
  clear h hT hF hn hb hr ht hpx hpl hps hO KF bgb brb BG BR UA htn
  unfold sdZ at *
  by_cases he : e = 0
  · subst he
    rw [if_neg (by decide)]
    simp only [if_true]
    go_enter Tryz.func69, Tryz.ntmps69
    go_upto_region 1 with fail
    rw [← hwa, ← hr0, ← hg]
    clear hwa hg hr0
    go_upto_region 2 with fail
    rw [← hwb]
    clear hwb c0 c1 c2 c3 c4 c5 c6 cg0 fg0
    go_upto_region 3 with (first
      | (go_at_call 93; (with_reducible refine (HPY.out _).mono ?_); rintro r w2 ⟨rfl, hu⟩; have U2 := Lib.hid hu; clear hu)
      | (go_at_call 92; (with_reducible refine (HWF.out _ U2.out).mono ?_); rintro r w3 ⟨rfl, hv⟩; have G3 := Lib.hid hv; clear hv))
    have Q3 : Hid (Upd (VOwn A M.nb) wb w3) := (U2.out.mono (fun _ _ e => e.elim)).trans G3.out.u
    have hb3 := HVB.out.keepT 89 (by decide) Q3.out g _ HBG.out
    have hr3 := HVB.out.keepT 94 (by decide) Q3.out r0 _ HBR.out
    have B3 := Lib.hid hb3
    have R3 := Lib.hid hr3
    have UW : Hid (Upd (VOwn A M.nb) w w3) := (UB.out.mono (fun _ _ e => e.elim)).trans Q3.out
    have y1 : w3.cell? ⟨g, 1, none⟩ = some (.int .i64 (tn : Int)) := cell_of hb3 1
    clear x0 x1 x2 x3 HWF U2 HBG HBR
    have HV3 := Lib.hid (G3.out.v.setTurn tn)
    obtain ⟨c0, c1, c2, c3, c4, c5, c6⟩ := G3.out.v.cells
    have fv5 := free_of G3.out.v.top 5
    obtain ⟨wv, hwv⟩ : ∃ wv, wv = w3.setCell ⟨A.v, 5, none⟩ (.int .i64 (tn : Int)) := ⟨_, rfl⟩
    have uv : Upd (oneBlock A.v) w3 wv := by rw [hwv]; exact (Upd.refl (oneBlock A.v) w3).setCell (p := ⟨A.v, 5, none⟩) (.inl rfl) _
    have UV : Hid (Upd (VOwn A M.nb) w wv) := UW.out.trans (uv.mono (fun _ _ e => .inl e))
    have B4 : Hid (wv.heap[g]? = some (.cells #[.int .i64 id, .int .i64 (tn : Int), .bool s, .bool c] 89 (0, 0))) := (uv.block g (lt_of_block B3.out) (fun e => apart B3.out G3.out.v.top (by decide) e)).trans B3.out
    have R4 : Hid (wv.heap[r0]? = some (.cells #[.int .i64 0, .int .i64 0, .bool false, .bool false, .int .i64 0, .slice none 0 0, .slice none 0 0, .int .i64 0, .bool false, .bool false, .string ⟨#[]⟩, .string ⟨#[]⟩] 94 (0, 0))) := (uv.block r0 (lt_of_block R3.out) (fun e => apart R3.out G3.out.v.top (by decide) e)).trans R3.out
    rw [← hwv] at HV3
    go_upto_region 6 with fail
    rw [← hwv]
    have NE : Hid (¬ g = r0) := fun e => apart B4.out R4.out (by decide) e
    have hnp : M1.np = M.np := HKF.out.np
    have HPL : Hid (∀ W, Hid (Upd noBlock wv W) → Calls Tryz.prog 48 #[.pointer (some ⟨A.v, 0, none⟩), .bool s] W fun e w' => ∃ a1 n1 q1 a2 n2 q2, e = .returned (.agg #[.slice a1 n1 q1, .slice a2 n2 q2]) ∧ Pr.OwnV w' w.heap.size (.slice a1 n1 q1) (dl s (M.np - 3)) ∧ Pr.OwnV w' w.heap.size (.slice a2 n2 q2) (parL s M.np) ∧ Hid (Upd noBlock wv w')) := fun W hW => by
      have h9 := plan_sl s (HV3.out.grow hW.out)
      rw [hnp] at h9
      have hle : w.heap.size ≤ W.heap.size := Nat.le_trans UV.out.size hW.out.size
      exact h9.mono fun e w' ⟨a1, n1, q1, a2, n2, q2, he, o1, o2, hu⟩ => ⟨a1, n1, q1, a2, n2, q2, he, o1.more hle, o2.more hle, hW.out.trans hu⟩
    have HPZ : Hid (∀ W, Hid (Upd noBlock wv W) → Calls Tryz.prog 93 #[.agg #[.int .i64 id, .int .i64 (tn : Int), .bool s, .bool c]] W fun e w' => e = .returned (.string px) ∧ Upd noBlock W w' ∧ Hid (Upd noBlock wv w')) := fun W hW => (HPY.out W).mono fun e w' ⟨he, hu⟩ => ⟨he, hu, hW.out.trans hu⟩
    have HC : Hid (∀ W : World, Hid (W.heap[g]? = some (.cells #[.int .i64 id, .int .i64 (tn : Int), .bool s, .bool c] 89 (0, 0))) → W.cell? ⟨g, 0, none⟩ = some (.int .i64 id) ∧ W.cell? ⟨g, 1, none⟩ = some (.int .i64 (tn : Int)) ∧ W.cell? ⟨g, 2, none⟩ = some (.bool s) ∧ W.cell? ⟨g, 3, none⟩ = some (.bool c) ∧ Hid (W.heap[g]? = some (.cells #[.int .i64 id, .int .i64 (tn : Int), .bool s, .bool c] 89 (0, 0)))) := fun W hW => ⟨cell_of hW.out 0, cell_of hW.out 1, cell_of hW.out 2, cell_of hW.out 3, hW⟩
    have K1 : Hid (wv.drew.heap[g]? = some (.cells #[.int .i64 id, .int .i64 (tn : Int), .bool s, .bool c] 89 (0, 0))) := B4.out
    have V0 : Hid (Upd noBlock wv wv) := Upd.refl _ _
    have V1' : Hid (Upd noBlock wv wv.drew) := (Upd.refl _ _).drew
    have HKB : Hid (∀ W, Hid (Upd noBlock wv W) → W.heap[g]? = some (.cells #[.int .i64 id, .int .i64 (tn : Int), .bool s, .bool c] 89 (0, 0))) := fun W hW => (hW.out.block g (lt_of_block B4.out) (fun h => h)).trans B4.out
    have HRB : Hid (∀ W, Hid (Upd noBlock wv W) → W.heap[r0]? = some (.cells #[.int .i64 0, .int .i64 0, .bool false, .bool false, .int .i64 0, .slice none 0 0, .slice none 0 0, .int .i64 0, .bool false, .bool false, .string ⟨#[]⟩, .string ⟨#[]⟩] 94 (0, 0))) := fun W hW => (hW.out.block r0 (lt_of_block R4.out) (fun h => h)).trans R4.out
    have HKS : Hid (∀ (W : World) j v, Hid (W.heap[g]? = some (.cells #[.int .i64 id, .int .i64 (tn : Int), .bool s, .bool c] 89 (0, 0))) → Hid ((W.setCell ⟨r0, j, none⟩ v).heap[g]? = some (.cells #[.int .i64 id, .int .i64 (tn : Int), .bool s, .bool c] 89 (0, 0)))) := fun W j v h => block_set_other h.out NE.out v
    clear hb3 hr3 y1 c0 c1 c2 c3 c4 c5 c6 fv5 uv hwv
    go_region_held3 (fun W => W.cell? ⟨g, 0, none⟩ = some (.int .i64 id) ∧ W.cell? ⟨g, 1, none⟩ = some (.int .i64 (tn : Int)) ∧ W.cell? ⟨g, 2, none⟩ = some (.bool s) ∧ W.cell? ⟨g, 3, none⟩ = some (.bool c) ∧ Hid (W.heap[g]? = some (.cells #[.int .i64 id, .int .i64 (tn : Int), .bool s, .bool c] 89 (0, 0))))
      (first | with_reducible exact HC.out _ B4 | with_reducible exact HC.out _ K1 | with_reducible exact HC.out _ K5 | with_reducible exact HC.out _ K6 | with_reducible exact HC.out _ (HKS.out _ _ _ (HKS.out _ _ _ (HKS.out _ _ _ (HKS.out _ _ _ (HKS.out _ _ _ (HKS.out _ _ _ (HKS.out _ _ _ (HKS.out _ _ _ (HKS.out _ _ _ (HKS.out _ _ _ (HKS.out _ _ _ (HKS.out _ _ _ K6)))))))))))))
      (first
        | (go_at_call 48; (with_reducible refine (HPL.out _ V1').mono ?_); rintro r w5 ⟨a1, n1, q1, a2, n2, q2, rfl, o1, o2, V5⟩; have O1 := Lib.hid o1; have O2 := Lib.hid o2; have K5 := Lib.hid (HKB.out _ V5); clear o1 o2)
        | (go_at_call 93; (with_reducible refine (HPZ.out _ V5).mono ?_); rintro r w6 ⟨rfl, hu, V6⟩; have U6 := Lib.hid hu; have K6 := Lib.hid (HKB.out _ V6); have R6 := Lib.hid (HRB.out _ V6); obtain ⟨z0, z1, z2, z3, z4, z5, z6, z7, z8, z9, za, zb⟩ := cells12 R6.out; obtain ⟨f0, f1, f2, f3, f4, f5, f6, f7, f8, f9, fa, fb⟩ := frees12 R6.out; clear hu))
    obtain ⟨we, hwe⟩ : ∃ we, we = set12C w6 r0 (.int .i64 id) (.int .i64 (tn : Int)) (.bool s) (.bool c) (.int .i64 (b : Int)) (.slice a1 n1 q1) (.slice a2 n2 q2) (.int .i64 0) (.bool false) (.bool false) (.string px) (.string ⟨#[]⟩) := ⟨_, rfl⟩
    have u3 : Upd (oneBlock r0) w6 we := by rw [hwe]; exact set12C_upd _ _ _ _ _ _ _ _ _ _ _ _ _ _
    have RE : Hid (we.heap[r0]? = some (.cells #[.int .i64 id, .int .i64 (tn : Int), .bool s, .bool c, .int .i64 (b : Int), .slice a1 n1 q1, .slice a2 n2 q2, .int .i64 0, .bool false, .bool false, .string px, .string ⟨#[]⟩] 94 (0, 0))) := by rw [hwe]; exact set12C_at R6.out
    have VE := Lib.hid ((HV3.out.grow V6.out).alien R6.out (by decide) (by decide) u3)
    have UE : Hid (Upd (VOwn A M.nb) w we) := (UV.out.trans (V6.out.mono (fun _ _ e => e.elim))).past u3 HRS.out
    have P1 := Lib.hid ((O1.out.grow U6.out).alien R6.out (by decide) u3)
    have P2 := Lib.hid ((O2.out.grow U6.out).alien R6.out (by decide) u3)
    unfold set12C at hwe
    rw [← hwe]
    clear hwe u3
    go_wp2_with fail
    exact bodyPost_ret_by (ret_cell2F rfl _ _ r0 _ _ _ _ _ rfl RE.out Tryz.underlying94 rfl sdInfo rfl) rfl ⟨⟨VE.out, UE.out⟩, _, _, rfl, P1.out, P2.out⟩
  · rw [if_pos he]
    simp only [if_neg he]
    go_enter Tryz.func69, Tryz.ntmps69
    go_upto_region 1 with fail
    rw [← hwa, ← hr0, ← hg]
    clear hwa hg hr0
    go_upto_region 2 with fail
    rw [← hwb]
    clear hwb c0 c1 c2 c3 c4 c5 c6 cg0 fg0
    go_upto_region 3 with (first
      | (go_at_call 93; (with_reducible refine (HPY.out _).mono ?_); rintro r w2 ⟨rfl, hu⟩; have U2 := Lib.hid hu; clear hu)
      | (go_at_call 92; (with_reducible refine (HWF.out _ U2.out).mono ?_); rintro r w3 ⟨rfl, hv⟩; have G3 := Lib.hid hv; clear hv))
    have Q3 : Hid (Upd (VOwn A M.nb) wb w3) := (U2.out.mono (fun _ _ e => e.elim)).trans G3.out.u
    have hb3 := HVB.out.keepT 89 (by decide) Q3.out g _ HBG.out
    have hr3 := HVB.out.keepT 94 (by decide) Q3.out r0 _ HBR.out
    have B3 := Lib.hid hb3
    have R3 := Lib.hid hr3
    have UW : Hid (Upd (VOwn A M.nb) w w3) := (UB.out.mono (fun _ _ e => e.elim)).trans Q3.out
    have y1 : w3.cell? ⟨g, 1, none⟩ = some (.int .i64 (tn : Int)) := cell_of hb3 1
    clear x0 x1 x2 x3 HWF U2 HBG HBR
    have d1 : (e != 0) = true := bne_iff_ne.2 he
    obtain ⟨z0, z1, z2, z3, z4, z5, z6, z7, z8, z9, za, zb⟩ := cells12 hr3
    obtain ⟨f0, f1, f2, f3, f4, f5, f6, f7, f8, f9, fa, fb⟩ := frees12 hr3
    obtain ⟨we, hwe⟩ : ∃ we, we = set12C w3 r0 (.int .i64 0) (.int .i64 0) (.bool false) (.bool false) (.int .i64 0) (.slice none 0 0) (.slice none 0 0) (.int .i64 0) (.bool false) (.bool false) (.string ⟨#[]⟩) (.string ⟨#[]⟩) := ⟨_, rfl⟩
    have u3 : Upd (oneBlock r0) w3 we := by rw [hwe]; exact set12C_upd _ _ _ _ _ _ _ _ _ _ _ _ _ _
    have RE : Hid (we.heap[r0]? = some (.cells #[.int .i64 0, .int .i64 0, .bool false, .bool false, .int .i64 0, .slice none 0 0, .slice none 0 0, .int .i64 0, .bool false, .bool false, .string ⟨#[]⟩, .string ⟨#[]⟩] 94 (0, 0))) := by rw [hwe]; exact set12C_at hr3
    have VE := Lib.hid (G3.out.v.alien hr3 (by decide) (by decide) u3)
    have UE : Hid (Upd (VOwn A M.nb) w we) := UW.out.past u3 HRS.out
    unfold set12C at hwe
    clear hb3 hr3 u3
    go_wp2_with fail
    rw [← hwe]
    exact bodyPost_ret_by (ret_cell2F rfl _ _ r0 _ _ _ _ _ rfl RE.out Tryz.underlying94 rfl sdInfo rfl) rfl ⟨⟨VE.out, UE.out⟩, rfl⟩
end
end Go.Proofs.YtoledgpcgjdjjaaGreatDoor

/- extend walked. -/
namespace Go.Proofs.YtoledgpcgjdjjaaGreatDoor
open F
open Go.RowKit Pm Cm Pr
set_option linter.unusedVariables false
attribute [local irreducible] openL decUp empUp Lib.onesCount parT sealed beZ valN labelL

theorem own_at0 {w : World} {B : Nat} {v : Value} {xs : List Int} (h : Pr.OwnV w B v xs) (hx : 0 < xs.length) :
    ∃ g cs c, v = .slice (some ⟨g, 0, none⟩) xs.length c ∧ w.heap[g]? = some (.cells cs 3 (0, 0)) ∧ ∀ j, j < xs.length → cs[j]? = (vals xs)[j]? := by
  obtain ⟨hl, h⟩ := h
  rcases h with ⟨h1, h2⟩ | ⟨g, cap, cur, rfl, hb, hg, hnc, hcm, hsz, htake⟩
  · omega
  · refine ⟨g, cur, cap, rfl, hg, fun j hj => ?_⟩
    have h9 : (cur.toList.take (xs.length * 1))[j]? = (vals xs)[j]? := by rw [htake]
    rw [List.getElem?_take, if_pos (by omega), Array.getElem?_toList] at h9
    exact h9
theorem strs_two (W : World) (x y : ByteArray) (hx : x.size ≤ maxLen) (hy : y.size ≤ maxLen) : Strs (W.alloc (.cells #[.string x, .string y] 9)) (W.heap.size + 1) (some ⟨W.heap.size, 0, none⟩) 2 [x, y] :=
  ⟨⟨rfl, fun _ => ⟨W.heap.size, 0, rfl, by omega, fun j hj => by
    rw [cell_of (heap_alloc_new W _)]
    match j, hj with
    | 0, _ => rfl
    | 1, _ => rfl⟩⟩, fun s hs => by
    simp at hs
    rcases hs with rfl | rfl
    · exact hx
    · exact hy⟩
def xorB (room : Nat) (L : List ByteArray) : ByteArray := ⟨(xorL (room : Int) L).toArray⟩
section
variable {A : Vp} {M : Ch} {V : Vo} {w : World}
set_option maxRecDepth 100000 in
set_option maxHeartbeats 6400000 in
theorem extend_any (n p : Nat) (id turn : Int) (ss cc : Bool) (b : Nat) (a1 : Option Addr) (n1 q1 : Nat) (a2 : Option Addr) (n2 q2 : Nat) (pages : Nat) (cl gd : Bool) (s0 s1 s : ByteArray) (xs : List Int) (B : Nat)
    (h : VolIn w A M V) (hT : ∀ W, Upd (VOwn A M.nb) w W → Tab W) (hF : M.Fit n) (hn : n < 4000000000000000000) (hb : b < M.nb) (hs : s.size ≤ A.room) (hs0 : s0.size ≤ 5000) (hs1 : s1.size ≤ 5000)
    (hD : Pr.OwnV w B (.slice a1 n1 q1) xs) (hpg : pages + 1 < xs.length) (hxl : xs.length ≤ 64) (hp : xs.getD (pages + 1) 0 = (p : Int)) (hpn : p < M.np) :
    Calls Tryz.prog 52 #[.pointer (some ⟨A.v, 0, none⟩), .agg #[.int .i64 id, .int .i64 turn, .bool ss, .bool cc, .int .i64 (b : Int), .slice a1 n1 q1, .slice a2 n2 q2, .int .i64 (pages : Int), .bool cl, .bool gd, .string s0, .string s1], .string s] w fun r w' => VGo w A M (wrP A V M b p s.data.toList) w' ∧
      r = .returned (if (wrP A V M b p s.data.toList).e = 0 then .tuple #[.agg #[.int .i64 id, .int .i64 turn, .bool ss, .bool cc, .int .i64 (b : Int), .slice a1 n1 q1, .slice a2 n2 q2, .int .i64 ((pages : Int) + 1), .bool cl, .bool gd, .string (if p % 4 < 2 then xorB A.room [s0, s] else s0), .string (if p % 4 < 2 then s1 else xorB A.room [s1, s])], .int .i64 0]
        else .tuple #[.agg #[.int .i64 id, .int .i64 turn, .bool ss, .bool cc, .int .i64 (b : Int), .slice a1 n1 q1, .slice a2 n2 q2, .int .i64 (pages : Int), .bool cl, .bool gd, .string s0, .string s1], .int .i64 (wrP A V M b p s.data.toList).e]) := by
  have hr7 := h.room7
  have hnp := h.np4
  obtain ⟨ga, csa, ca, hva, hba, hca⟩ := own_at0 hD (by omega)
  injection hva with e1 e2 e3
  subst e1 e2 e3
  have cD : w.cell? ⟨ga, pages + 1, none⟩ = some (.int .i64 (p : Int)) := by
    rw [cell_of hba, hca (pages + 1) hpg]
    unfold vals
    rw [List.getElem?_map, List.getElem?_eq_getElem hpg]
    rw [List.getD_eq_getElem?_getD, List.getElem?_eq_getElem hpg] at hp
    have hp' : xs[pages + 1] = (p : Int) := hp
    rw [hp']; rfl
  obtain ⟨wa, hwa⟩ : ∃ wa, wa = (w.alloc (.cells #[.int .i64 id, .int .i64 turn, .bool ss, .bool cc, .int .i64 (b : Int), .slice (some ⟨ga, 0, none⟩) xs.length q1, .slice a2 n2 q2, .int .i64 (pages : Int), .bool cl, .bool gd, .string s0, .string s1] 94)).alloc (.cells #[.int .i64 0, .int .i64 0, .bool false, .bool false, .int .i64 0, .slice none 0 0, .slice none 0 0, .int .i64 0, .bool false, .bool false, .string ⟨#[]⟩, .string ⟨#[]⟩] 94) := ⟨_, rfl⟩
  obtain ⟨g, hg⟩ : ∃ g, g = w.heap.size := ⟨_, rfl⟩
  obtain ⟨r0, hr0⟩ : ∃ r0, r0 = w.heap.size + 1 := ⟨_, rfl⟩
  have UA : Hid (Upd noBlock w wa) := by rw [hwa]; exact ((Upd.refl _ _).alloc _).alloc _
  have bg : wa.heap[g]? = some (.cells #[.int .i64 id, .int .i64 turn, .bool ss, .bool cc, .int .i64 (b : Int), .slice (some ⟨ga, 0, none⟩) xs.length q1, .slice a2 n2 q2, .int .i64 (pages : Int), .bool cl, .bool gd, .string s0, .string s1] 94 (0, 0)) := by rw [hwa, hg]; exact block_alloc (heap_alloc_new w _) _
  have br : wa.heap[r0]? = some (.cells #[.int .i64 0, .int .i64 0, .bool false, .bool false, .int .i64 0, .slice none 0 0, .slice none 0 0, .int .i64 0, .bool false, .bool false, .string ⟨#[]⟩, .string ⟨#[]⟩] 94 (0, 0)) := by
    have h9 := heap_alloc_new (w.alloc (.cells #[.int .i64 id, .int .i64 turn, .bool ss, .bool cc, .int .i64 (b : Int), .slice (some ⟨ga, 0, none⟩) xs.length q1, .slice a2 n2 q2, .int .i64 (pages : Int), .bool cl, .bool gd, .string s0, .string s1] 94)) (.cells #[.int .i64 0, .int .i64 0, .bool false, .bool false, .int .i64 0, .slice none 0 0, .slice none 0 0, .int .i64 0, .bool false, .bool false, .string ⟨#[]⟩, .string ⟨#[]⟩] 94)
    rw [World.size_alloc] at h9
    rw [hwa, hr0]; exact h9
  have HGS : Hid (w.heap.size ≤ g) := Nat.le_of_eq hg.symm
  have HRS : Hid (w.heap.size ≤ r0) := by show w.heap.size ≤ r0; omega
  have NE : Hid (¬ g = r0) := by show ¬ g = r0; omega
  have HVA := Lib.hid (h.grow UA.out)
  have cDa : wa.cell? ⟨ga, pages + 1, none⟩ = some (.int .i64 (p : Int)) := (World.cell?_of_block (UA.out.block ga (lt_of_block hba) (fun h => h))).trans cD
  obtain ⟨x0, x1, x2, x3, x4, x5, x6, x7, x8, x9, xa, xb⟩ := cells12 bg
  have HWR := Lib.hid (vwrite_any b p n (b : Int) (p : Int) rfl rfl s HVA.out (hT _ (UA.out.mono (fun _ _ e => e.elim))) hF (by omega) hb hpn hs)
  have hwp : IntKind.i64.wrap ((pages : Int) + 1) = (pages : Int) + 1 := by rw [IntKind.wrap_i64]; omega
  have i1 : (0 : Int) ≤ (pages : Int) + 1 := by omega
  have i2 : (pages : Int) + 1 < (xs.length : Int) := by omega
  have HBG := Lib.hid bg
  have HBR := Lib.hid br
  have HGR : Hid (∀ W, Calls Tryz.prog 75 #[.int .i64 (p : Int)] W fun e w' => e = .returned (.int .i64 (grp p)) ∧ W = w') := fun W => group_any p W (by omega)
  obtain ⟨O, hO⟩ : ∃ O, wrP A V M b p s.data.toList = O := ⟨_, rfl⟩
  rw [hO] at HWR ⊢
  obtain ⟨e, V1, M1⟩ := O
  simp only at *
  have hss : s.size ≤ 1017 := by omega
  clear h hT hF hn hb hs hD hba hca hp hpn hO bg br cD hnp
  by_cases he : e = 0
  · subst he
    simp only [if_true]
    by_cases hg4 : p % 4 < 2
    · simp only [if_pos hg4]
      have hgv : grp p = 0 := if_pos hg4
      rw [hgv] at HGR
      obtain ⟨X, hX⟩ : ∃ X, xorB A.room [s0, s] = X := ⟨_, rfl⟩
      rw [hX]
      go_enter Tryz.func52, Tryz.ntmps52
      go_upto_region 1 with fail
      rw [← hwa, ← hr0, ← hg]
      clear hwa hr0 hg
      go_upto_region 3 with (go_at_call 82; (with_reducible refine HWR.out.mono ?_); rintro r w2 ⟨rfl, hv⟩; have G2 := Lib.hid hv; clear hv)
      have hb2 := HVA.out.keepT 94 (by decide) G2.out.u g _ HBG.out
      have hr2 := HVA.out.keepT 94 (by decide) G2.out.u r0 _ HBR.out
      have UW : Hid (Upd (VOwn A M.nb) w w2) := (UA.out.mono (fun _ _ e => e.elim)).trans G2.out.u
      have BG2 := Lib.hid hb2
      have BR2 := Lib.hid hr2
      clear x0 x1 x2 x3 x4 x5 x6 x7 x8 x9 xa xb HWR HBG HBR HVA
      have HXO : Hid (Calls Tryz.prog 77 #[.int .i64 (A.room : Int), .slice (some ⟨w2.heap.size, 0, none⟩) 2 2] (w2.alloc (.cells #[.string s0, .string s] 9)).drew fun e w' => e = .returned (.string X) ∧ Hid (Upd noBlock w2 w')) := by
        have h9 := xor_any (A.room : Int) (some ⟨w2.heap.size, 0, none⟩) 2 2 (w2.heap.size + 1) [s0, s] (w2.alloc (.cells #[.string s0, .string s] 9)).drew ((strs_two w2 s0 s (by simp only [maxLen]; omega) (by simp only [maxLen]; omega)).grow (Upd.refl _ _).drew (by rw [World.size_alloc]; exact Nat.le_refl _)) (by show w2.heap.size + 1 ≤ (w2.alloc (.cells #[.string s0, .string s] 9)).heap.size; rw [World.size_alloc]; exact Nat.le_refl _) (by omega)
        rw [← hX]
        exact h9.mono fun e w' ⟨he, hu⟩ => ⟨he, (((Upd.refl _ _).alloc _).drew).trans hu⟩
      have cv := G2.out.v.cells.2.2.1
      have cvd : w2.drew.cell? ⟨A.v, 2, none⟩ = some (.int .i64 (A.room : Int)) := cv
      have cva : (w2.alloc (.cells #[.string s0, .string s] 9)).cell? ⟨A.v, 2, none⟩ = some (.int .i64 (A.room : Int)) := (World.cell?_of_block (((Upd.refl noBlock w2).alloc (.cells #[.string s0, .string s] 9)).block A.v (lt_of_block G2.out.v.top) (fun h => h))).trans cv
      have cvb : (w2.alloc (.cells #[.string s0, .string s] 9)).drew.cell? ⟨A.v, 2, none⟩ = some (.int .i64 (A.room : Int)) := cva
      have cS : w2.cell? ⟨g, 10, none⟩ = some (.string s0) := cell_of hb2 10
      have cSd : w2.drew.cell? ⟨g, 10, none⟩ = some (.string s0) := cS
      have HGK : Hid (∀ W, Hid (Upd noBlock w2 W) → W.heap[g]? = some (.cells #[.int .i64 id, .int .i64 turn, .bool ss, .bool cc, .int .i64 (b : Int), .slice (some ⟨ga, 0, none⟩) xs.length q1, .slice a2 n2 q2, .int .i64 (pages : Int), .bool cl, .bool gd, .string s0, .string s1] 94 (0, 0))) := fun W hW => (hW.out.block g (lt_of_block BG2.out) (fun h => h)).trans BG2.out
      clear hb2 hr2 hgv hX
      go_upto_region 6 with (go_at_call 75; (with_reducible refine (HGR.out _).mono ?_); rintro r w3 ⟨rfl, rfl⟩)
      have UWC : Hid (∀ W, Hid (Upd noBlock w2 W) → Upd (VOwn A M.nb) w W) := fun W h => UW.out.trans (h.out.mono (fun _ _ e => e.elim))
      have HRK : Hid (∀ W, Hid (Upd noBlock w2 W) → W.heap[r0]? = some (.cells #[.int .i64 0, .int .i64 0, .bool false, .bool false, .int .i64 0, .slice none 0 0, .slice none 0 0, .int .i64 0, .bool false, .bool false, .string ⟨#[]⟩, .string ⟨#[]⟩] 94 (0, 0))) := fun W hW => (hW.out.block r0 (lt_of_block BR2.out) (fun h => h)).trans BR2.out
      go_cut [] from 31 to 44 (fun wz => Hid (wz.heap[g]? = some (.cells #[.int .i64 id, .int .i64 turn, .bool ss, .bool cc, .int .i64 (b : Int), .slice (some ⟨ga, 0, none⟩) xs.length q1, .slice a2 n2 q2, .int .i64 (pages : Int), .bool cl, .bool gd, .string X, .string s1] 94 (0, 0))) ∧ Hid (VolIn wz A M1 V1) ∧ Hid (Upd (VOwn A M.nb) w wz) ∧ Hid (wz.heap[r0]? = some (.cells #[.int .i64 0, .int .i64 0, .bool false, .bool false, .int .i64 0, .slice none 0 0, .slice none 0 0, .int .i64 0, .bool false, .bool false, .string ⟨#[]⟩, .string ⟨#[]⟩] 94 (0, 0))))
      case first =>
        go_region_with (first
            | (go_at_call 77; (with_reducible refine HXO.out.mono ?_); rintro r w5 ⟨rfl, U5⟩; have hb5 := HGK.out _ U5; have B5 := Lib.hid hb5; have c5 : w5.cell? ⟨g, 10, none⟩ = some (.string s0) := cell_of hb5 10; have f5 := free_of hb5 10; clear hb5))
        all_goals
          go_wp2
          go_meet
          have u6 : Upd (oneBlock g) w5 (w5.setCell ⟨g, 10, none⟩ (.string X)) := (Upd.refl (oneBlock g) w5).setCell (p := ⟨g, 10, none⟩) (.inl rfl) _
          exact ⟨block_set B5.out _, (G2.out.v.grow U5.out).alien B5.out (by decide) (by decide) u6, (UWC.out _ U5).past u6 HGS.out, block_set_other (HRK.out _ U5) (fun e => NE.out (Eq.symm e)) _⟩
      case rest =>
        obtain ⟨B6, V6, U6, R6⟩ := hcut
        obtain ⟨wz, rfl⟩ : ∃ wz : World, wz = wc := ⟨_, rfl⟩
        obtain ⟨y0, y1, y2, y3, y4, y5, y6, y7, y8, y9, ya, yb⟩ := cells12 B6.out
        have fg7 := free_of B6.out 7
        obtain ⟨wy, hwy⟩ : ∃ wy, wy = wz.setCell ⟨g, 7, none⟩ (.int .i64 ((pages : Int) + 1)) := ⟨_, rfl⟩
        have u7 : Upd (oneBlock g) wz wy := by rw [hwy]; exact (Upd.refl (oneBlock g) wz).setCell (p := ⟨g, 7, none⟩) (.inl rfl) _
        have b7 : wy.heap[g]? = some (.cells #[.int .i64 id, .int .i64 turn, .bool ss, .bool cc, .int .i64 (b : Int), .slice (some ⟨ga, 0, none⟩) xs.length q1, .slice a2 n2 q2, .int .i64 ((pages : Int) + 1), .bool cl, .bool gd, .string X, .string s1] 94 (0, 0)) := by rw [hwy]; exact block_set B6.out _
        have r7 : wy.heap[r0]? = some (.cells #[.int .i64 0, .int .i64 0, .bool false, .bool false, .int .i64 0, .slice none 0 0, .slice none 0 0, .int .i64 0, .bool false, .bool false, .string ⟨#[]⟩, .string ⟨#[]⟩] 94 (0, 0)) := by rw [hwy]; exact block_set_other R6.out (fun e => NE.out (Eq.symm e)) _
        have V7 := Lib.hid (V6.out.alien B6.out (by decide) (by decide) u7)
        have U7 := Lib.hid (U6.out.past u7 HGS.out)
        go_upto_region 8 with fail
        rw [← hwy]
        clear hwy y0 y1 y2 y3 y4 y5 y6 y7 y8 y9 ya yb fg7 u7
        obtain ⟨y0, y1, y2, y3, y4, y5, y6, y7, y8, y9, ya, yb⟩ := cells12 b7
        obtain ⟨z0, z1, z2, z3, z4, z5, z6, z7, z8, z9, za, zb⟩ := cells12 r7
        obtain ⟨f0, f1, f2, f3, f4, f5, f6, f7, f8, f9, fa, fb⟩ := frees12 r7
        obtain ⟨we, hwe⟩ : ∃ we, we = set12C wy r0 (.int .i64 id) (.int .i64 turn) (.bool ss) (.bool cc) (.int .i64 (b : Int)) (.slice (some ⟨ga, 0, none⟩) xs.length q1) (.slice a2 n2 q2) (.int .i64 ((pages : Int) + 1)) (.bool cl) (.bool gd) (.string X) (.string s1) := ⟨_, rfl⟩
        have u3 : Upd (oneBlock r0) wy we := by rw [hwe]; exact set12C_upd _ _ _ _ _ _ _ _ _ _ _ _ _ _
        have RE : Hid (we.heap[r0]? = some (.cells #[.int .i64 id, .int .i64 turn, .bool ss, .bool cc, .int .i64 (b : Int), .slice (some ⟨ga, 0, none⟩) xs.length q1, .slice a2 n2 q2, .int .i64 ((pages : Int) + 1), .bool cl, .bool gd, .string X, .string s1] 94 (0, 0))) := by rw [hwe]; exact set12C_at r7
        have VE := Lib.hid (V7.out.alien r7 (by decide) (by decide) u3)
        have UE : Hid (Upd (VOwn A M.nb) w we) := U7.out.past u3 HRS.out
        unfold set12C at hwe
        clear u3 b7 r7
        go_wp2_with fail
        rw [← hwe]
        exact bodyPost_ret_by (ret_cell2F rfl _ _ r0 _ _ _ _ _ rfl RE.out Tryz.underlying94 rfl sdInfo rfl) rfl ⟨⟨VE.out, UE.out⟩, rfl⟩
    · simp only [if_neg hg4]
      have hgv : grp p = 1 := if_neg hg4
      rw [hgv] at HGR
      obtain ⟨X, hX⟩ : ∃ X, xorB A.room [s1, s] = X := ⟨_, rfl⟩
      rw [hX]
      go_enter Tryz.func52, Tryz.ntmps52
      go_upto_region 1 with fail
      rw [← hwa, ← hr0, ← hg]
      clear hwa hr0 hg
      go_upto_region 3 with (go_at_call 82; (with_reducible refine HWR.out.mono ?_); rintro r w2 ⟨rfl, hv⟩; have G2 := Lib.hid hv; clear hv)
      have hb2 := HVA.out.keepT 94 (by decide) G2.out.u g _ HBG.out
      have hr2 := HVA.out.keepT 94 (by decide) G2.out.u r0 _ HBR.out
      have UW : Hid (Upd (VOwn A M.nb) w w2) := (UA.out.mono (fun _ _ e => e.elim)).trans G2.out.u
      have BG2 := Lib.hid hb2
      have BR2 := Lib.hid hr2
      clear x0 x1 x2 x3 x4 x5 x6 x7 x8 x9 xa xb HWR HBG HBR HVA
      have HXO : Hid (Calls Tryz.prog 77 #[.int .i64 (A.room : Int), .slice (some ⟨w2.heap.size, 0, none⟩) 2 2] (w2.alloc (.cells #[.string s1, .string s] 9)).drew fun e w' => e = .returned (.string X) ∧ Hid (Upd noBlock w2 w')) := by
        have h9 := xor_any (A.room : Int) (some ⟨w2.heap.size, 0, none⟩) 2 2 (w2.heap.size + 1) [s1, s] (w2.alloc (.cells #[.string s1, .string s] 9)).drew ((strs_two w2 s1 s (by simp only [maxLen]; omega) (by simp only [maxLen]; omega)).grow (Upd.refl _ _).drew (by rw [World.size_alloc]; exact Nat.le_refl _)) (by show w2.heap.size + 1 ≤ (w2.alloc (.cells #[.string s1, .string s] 9)).heap.size; rw [World.size_alloc]; exact Nat.le_refl _) (by omega)
        rw [← hX]
        exact h9.mono fun e w' ⟨he, hu⟩ => ⟨he, (((Upd.refl _ _).alloc _).drew).trans hu⟩
      have cv := G2.out.v.cells.2.2.1
      have cvd : w2.drew.cell? ⟨A.v, 2, none⟩ = some (.int .i64 (A.room : Int)) := cv
      have cva : (w2.alloc (.cells #[.string s1, .string s] 9)).cell? ⟨A.v, 2, none⟩ = some (.int .i64 (A.room : Int)) := (World.cell?_of_block (((Upd.refl noBlock w2).alloc (.cells #[.string s1, .string s] 9)).block A.v (lt_of_block G2.out.v.top) (fun h => h))).trans cv
      have cvb : (w2.alloc (.cells #[.string s1, .string s] 9)).drew.cell? ⟨A.v, 2, none⟩ = some (.int .i64 (A.room : Int)) := cva
      have cS : w2.cell? ⟨g, 11, none⟩ = some (.string s1) := cell_of hb2 11
      have cSd : w2.drew.cell? ⟨g, 11, none⟩ = some (.string s1) := cS
      have HGK : Hid (∀ W, Hid (Upd noBlock w2 W) → W.heap[g]? = some (.cells #[.int .i64 id, .int .i64 turn, .bool ss, .bool cc, .int .i64 (b : Int), .slice (some ⟨ga, 0, none⟩) xs.length q1, .slice a2 n2 q2, .int .i64 (pages : Int), .bool cl, .bool gd, .string s0, .string s1] 94 (0, 0))) := fun W hW => (hW.out.block g (lt_of_block BG2.out) (fun h => h)).trans BG2.out
      clear hb2 hr2 hgv hX
      go_upto_region 6 with (go_at_call 75; (with_reducible refine (HGR.out _).mono ?_); rintro r w3 ⟨rfl, rfl⟩)
      have UWC : Hid (∀ W, Hid (Upd noBlock w2 W) → Upd (VOwn A M.nb) w W) := fun W h => UW.out.trans (h.out.mono (fun _ _ e => e.elim))
      have HRK : Hid (∀ W, Hid (Upd noBlock w2 W) → W.heap[r0]? = some (.cells #[.int .i64 0, .int .i64 0, .bool false, .bool false, .int .i64 0, .slice none 0 0, .slice none 0 0, .int .i64 0, .bool false, .bool false, .string ⟨#[]⟩, .string ⟨#[]⟩] 94 (0, 0))) := fun W hW => (hW.out.block r0 (lt_of_block BR2.out) (fun h => h)).trans BR2.out
      go_cut [] from 31 to 44 (fun wz => Hid (wz.heap[g]? = some (.cells #[.int .i64 id, .int .i64 turn, .bool ss, .bool cc, .int .i64 (b : Int), .slice (some ⟨ga, 0, none⟩) xs.length q1, .slice a2 n2 q2, .int .i64 (pages : Int), .bool cl, .bool gd, .string s0, .string X] 94 (0, 0))) ∧ Hid (VolIn wz A M1 V1) ∧ Hid (Upd (VOwn A M.nb) w wz) ∧ Hid (wz.heap[r0]? = some (.cells #[.int .i64 0, .int .i64 0, .bool false, .bool false, .int .i64 0, .slice none 0 0, .slice none 0 0, .int .i64 0, .bool false, .bool false, .string ⟨#[]⟩, .string ⟨#[]⟩] 94 (0, 0))))
      case first =>
        go_region_with (first
            | (go_at_call 77; (with_reducible refine HXO.out.mono ?_); rintro r w5 ⟨rfl, U5⟩; have hb5 := HGK.out _ U5; have B5 := Lib.hid hb5; have c5 : w5.cell? ⟨g, 11, none⟩ = some (.string s1) := cell_of hb5 11; have f5 := free_of hb5 11; clear hb5))
        all_goals
          go_wp2
          go_meet
          have u6 : Upd (oneBlock g) w5 (w5.setCell ⟨g, 11, none⟩ (.string X)) := (Upd.refl (oneBlock g) w5).setCell (p := ⟨g, 11, none⟩) (.inl rfl) _
          exact ⟨block_set B5.out _, (G2.out.v.grow U5.out).alien B5.out (by decide) (by decide) u6, (UWC.out _ U5).past u6 HGS.out, block_set_other (HRK.out _ U5) (fun e => NE.out (Eq.symm e)) _⟩
      case rest =>
        obtain ⟨B6, V6, U6, R6⟩ := hcut
        obtain ⟨wz, rfl⟩ : ∃ wz : World, wz = wc := ⟨_, rfl⟩
        obtain ⟨y0, y1, y2, y3, y4, y5, y6, y7, y8, y9, ya, yb⟩ := cells12 B6.out
        have fg7 := free_of B6.out 7
        obtain ⟨wy, hwy⟩ : ∃ wy, wy = wz.setCell ⟨g, 7, none⟩ (.int .i64 ((pages : Int) + 1)) := ⟨_, rfl⟩
        have u7 : Upd (oneBlock g) wz wy := by rw [hwy]; exact (Upd.refl (oneBlock g) wz).setCell (p := ⟨g, 7, none⟩) (.inl rfl) _
        have b7 : wy.heap[g]? = some (.cells #[.int .i64 id, .int .i64 turn, .bool ss, .bool cc, .int .i64 (b : Int), .slice (some ⟨ga, 0, none⟩) xs.length q1, .slice a2 n2 q2, .int .i64 ((pages : Int) + 1), .bool cl, .bool gd, .string s0, .string X] 94 (0, 0)) := by rw [hwy]; exact block_set B6.out _
        have r7 : wy.heap[r0]? = some (.cells #[.int .i64 0, .int .i64 0, .bool false, .bool false, .int .i64 0, .slice none 0 0, .slice none 0 0, .int .i64 0, .bool false, .bool false, .string ⟨#[]⟩, .string ⟨#[]⟩] 94 (0, 0)) := by rw [hwy]; exact block_set_other R6.out (fun e => NE.out (Eq.symm e)) _
        have V7 := Lib.hid (V6.out.alien B6.out (by decide) (by decide) u7)
        have U7 := Lib.hid (U6.out.past u7 HGS.out)
        go_upto_region 8 with fail
        rw [← hwy]
        clear hwy y0 y1 y2 y3 y4 y5 y6 y7 y8 y9 ya yb fg7 u7
        obtain ⟨y0, y1, y2, y3, y4, y5, y6, y7, y8, y9, ya, yb⟩ := cells12 b7
        obtain ⟨z0, z1, z2, z3, z4, z5, z6, z7, z8, z9, za, zb⟩ := cells12 r7
        obtain ⟨f0, f1, f2, f3, f4, f5, f6, f7, f8, f9, fa, fb⟩ := frees12 r7
        obtain ⟨we, hwe⟩ : ∃ we, we = set12C wy r0 (.int .i64 id) (.int .i64 turn) (.bool ss) (.bool cc) (.int .i64 (b : Int)) (.slice (some ⟨ga, 0, none⟩) xs.length q1) (.slice a2 n2 q2) (.int .i64 ((pages : Int) + 1)) (.bool cl) (.bool gd) (.string s0) (.string X) := ⟨_, rfl⟩
        have u3 : Upd (oneBlock r0) wy we := by rw [hwe]; exact set12C_upd _ _ _ _ _ _ _ _ _ _ _ _ _ _
        have RE : Hid (we.heap[r0]? = some (.cells #[.int .i64 id, .int .i64 turn, .bool ss, .bool cc, .int .i64 (b : Int), .slice (some ⟨ga, 0, none⟩) xs.length q1, .slice a2 n2 q2, .int .i64 ((pages : Int) + 1), .bool cl, .bool gd, .string s0, .string X] 94 (0, 0))) := by rw [hwe]; exact set12C_at r7
        have VE := Lib.hid (V7.out.alien r7 (by decide) (by decide) u3)
        have UE : Hid (Upd (VOwn A M.nb) w we) := U7.out.past u3 HRS.out
        unfold set12C at hwe
        clear u3 b7 r7
        go_wp2_with fail
        rw [← hwe]
        exact bodyPost_ret_by (ret_cell2F rfl _ _ r0 _ _ _ _ _ rfl RE.out Tryz.underlying94 rfl sdInfo rfl) rfl ⟨⟨VE.out, UE.out⟩, rfl⟩
  · simp only [if_neg he]
    have d1 : (e != 0) = true := bne_iff_ne.2 he
    go_enter Tryz.func52, Tryz.ntmps52
    go_upto_region 1 with fail
    rw [← hwa, ← hr0, ← hg]
    clear hwa hr0 hg
    go_upto_region 3 with (go_at_call 82; (with_reducible refine HWR.out.mono ?_); rintro r w2 ⟨rfl, hv⟩; have G2 := Lib.hid hv; clear hv)
    have hb2 := HVA.out.keepT 94 (by decide) G2.out.u g _ HBG.out
    have hr2 := HVA.out.keepT 94 (by decide) G2.out.u r0 _ HBR.out
    have UW : Hid (Upd (VOwn A M.nb) w w2) := (UA.out.mono (fun _ _ e => e.elim)).trans G2.out.u
    have BG2 := Lib.hid hb2
    have BR2 := Lib.hid hr2
    clear x0 x1 x2 x3 x4 x5 x6 x7 x8 x9 xa xb HWR HBG HBR HVA
    obtain ⟨y0, y1, y2, y3, y4, y5, y6, y7, y8, y9, ya, yb⟩ := cells12 hb2
    obtain ⟨z0, z1, z2, z3, z4, z5, z6, z7, z8, z9, za, zb⟩ := cells12 hr2
    obtain ⟨f0, f1, f2, f3, f4, f5, f6, f7, f8, f9, fa, fb⟩ := frees12 hr2
    obtain ⟨we, hwe⟩ : ∃ we, we = set12C w2 r0 (.int .i64 id) (.int .i64 turn) (.bool ss) (.bool cc) (.int .i64 (b : Int)) (.slice (some ⟨ga, 0, none⟩) xs.length q1) (.slice a2 n2 q2) (.int .i64 (pages : Int)) (.bool cl) (.bool gd) (.string s0) (.string s1) := ⟨_, rfl⟩
    have u3 : Upd (oneBlock r0) w2 we := by rw [hwe]; exact set12C_upd _ _ _ _ _ _ _ _ _ _ _ _ _ _
    have RE : Hid (we.heap[r0]? = some (.cells #[.int .i64 id, .int .i64 turn, .bool ss, .bool cc, .int .i64 (b : Int), .slice (some ⟨ga, 0, none⟩) xs.length q1, .slice a2 n2 q2, .int .i64 (pages : Int), .bool cl, .bool gd, .string s0, .string s1] 94 (0, 0))) := by rw [hwe]; exact set12C_at hr2
    have VE := Lib.hid (G2.out.v.alien hr2 (by decide) (by decide) u3)
    have UE : Hid (Upd (VOwn A M.nb) w we) := UW.out.past u3 HRS.out
    unfold set12C at hwe
    clear hb2 hr2 u3
    go_wp2_with fail
    rw [← hwe]
    exact bodyPost_ret_by (ret_cell2F rfl _ _ r0 _ _ _ _ _ rfl RE.out Tryz.underlying94 rfl sdInfo rfl) rfl ⟨⟨VE.out, UE.out⟩, rfl⟩
end
end Go.Proofs.YtoledgpcgjdjjaaGreatDoor

/- finish walked. -/
namespace Go.Proofs.YtoledgpcgjdjjaaGreatDoor
open F
open Go.RowKit Pm Cm Pr
set_option linter.unusedVariables false
attribute [local irreducible] openL decUp empUp Lib.onesCount parT sealed beZ valN labelL

def finS (A : Vp) (V : Vo) (M : Ch) (b : Nat) (xs : List Int) (sm : Nat → ByteArray) : Nat → Out
  | 0 => ⟨0, V, M⟩
  | i + 1 => wrP A (finS A V M b xs sm i).V (finS A V M b xs sm i).M b (xs.getD i 0).toNat (sm i).data.toList
theorem finS_keeps (A : Vp) (V : Vo) (M : Ch) (b : Nat) (xs : List Int) (sm : Nat → ByteArray) : ∀ i, Keeps M (finS A V M b xs sm i).M i
  | 0 => Keeps.refl M
  | i + 1 => (finS_keeps A V M b xs sm i).trans (wrP_keeps A _ _ b _ _)
section
variable {A : Vp} {M : Ch} {V : Vo} {w : World}
set_option maxRecDepth 100000 in
set_option maxHeartbeats 6400000 in
theorem finish_any (n : Nat) (id turn : Int) (ss cc : Bool) (b : Nat) (a1 : Option Addr) (n1 q1 : Nat) (a2 : Option Addr) (n2 q2 : Nat) (pages : Int) (cl gd : Bool) (s0 s1 : ByteArray) (xs : List Int) (B : Nat)
    (h : VolIn w A M V) (hT : ∀ W, Upd (VOwn A M.nb) w W → Tab W) (hF : M.Fit n) (hn : n < 4000000000000000000) (hb : b < M.nb) (hs0 : s0.size ≤ A.room) (hs1 : s1.size ≤ A.room)
    (hP : Pr.OwnV w B (.slice a2 n2 q2) xs) (hx0 : 0 < xs.length) (hx : xs.length ≤ 2) (hxp : ∀ i, i < xs.length → ∃ p : Nat, xs.getD i 0 = (p : Int) ∧ p < M.np) :
    Calls Tryz.prog 54 #[.pointer (some ⟨A.v, 0, none⟩), .agg #[.int .i64 id, .int .i64 turn, .bool ss, .bool cc, .int .i64 (b : Int), .slice a1 n1 q1, .slice a2 n2 q2, .int .i64 pages, .bool cl, .bool gd, .string s0, .string s1]] w fun r w' =>
      ((∀ j, j < xs.length → (finS A V M b xs (fun i => if i = 0 then s0 else s1) (j + 1)).e = 0) ∧ r = .returned (.tuple #[.agg #[.int .i64 id, .int .i64 turn, .bool ss, .bool cc, .int .i64 (b : Int), .slice a1 n1 q1, .slice a2 n2 q2, .int .i64 pages, .bool true, .bool true, .string ⟨#[]⟩, .string ⟨#[]⟩], .int .i64 0]) ∧ VGo w A M (finS A V M b xs (fun i => if i = 0 then s0 else s1) xs.length) w') ∨
      (∃ i, i < xs.length ∧ (∀ j, j < i → (finS A V M b xs (fun i => if i = 0 then s0 else s1) (j + 1)).e = 0) ∧ (finS A V M b xs (fun i => if i = 0 then s0 else s1) (i + 1)).e ≠ 0 ∧ r = .returned (.tuple #[.agg #[.int .i64 id, .int .i64 turn, .bool ss, .bool cc, .int .i64 (b : Int), .slice a1 n1 q1, .slice a2 n2 q2, .int .i64 pages, .bool cl, .bool gd, .string s0, .string s1], .int .i64 (finS A V M b xs (fun i => if i = 0 then s0 else s1) (i + 1)).e]) ∧ VGo w A M (finS A V M b xs (fun i => if i = 0 then s0 else s1) (i + 1)) w') := by
  obtain ⟨ga, csa, ca, hva, hba, hca⟩ := own_at0 hP hx0
  injection hva with e1 e2 e3
  subst e1 e2 e3
  obtain ⟨wa, hwa⟩ : ∃ wa, wa = (w.alloc (.cells #[.int .i64 id, .int .i64 turn, .bool ss, .bool cc, .int .i64 (b : Int), .slice a1 n1 q1, .slice (some ⟨ga, 0, none⟩) xs.length q2, .int .i64 pages, .bool cl, .bool gd, .string s0, .string s1] 94)).alloc (.cells #[.int .i64 0, .int .i64 0, .bool false, .bool false, .int .i64 0, .slice none 0 0, .slice none 0 0, .int .i64 0, .bool false, .bool false, .string ⟨#[]⟩, .string ⟨#[]⟩] 94) := ⟨_, rfl⟩
  obtain ⟨g, hg⟩ : ∃ g, g = w.heap.size := ⟨_, rfl⟩
  obtain ⟨r0, hr0⟩ : ∃ r0, r0 = w.heap.size + 1 := ⟨_, rfl⟩
  have UA : Hid (Upd noBlock w wa) := by rw [hwa]; exact ((Upd.refl _ _).alloc _).alloc _
  have bg : wa.heap[g]? = some (.cells #[.int .i64 id, .int .i64 turn, .bool ss, .bool cc, .int .i64 (b : Int), .slice a1 n1 q1, .slice (some ⟨ga, 0, none⟩) xs.length q2, .int .i64 pages, .bool cl, .bool gd, .string s0, .string s1] 94 (0, 0)) := by rw [hwa, hg]; exact block_alloc (heap_alloc_new w _) _
  have br : wa.heap[r0]? = some (.cells #[.int .i64 0, .int .i64 0, .bool false, .bool false, .int .i64 0, .slice none 0 0, .slice none 0 0, .int .i64 0, .bool false, .bool false, .string ⟨#[]⟩, .string ⟨#[]⟩] 94 (0, 0)) := by
    have h9 := heap_alloc_new (w.alloc (.cells #[.int .i64 id, .int .i64 turn, .bool ss, .bool cc, .int .i64 (b : Int), .slice a1 n1 q1, .slice (some ⟨ga, 0, none⟩) xs.length q2, .int .i64 pages, .bool cl, .bool gd, .string s0, .string s1] 94)) (.cells #[.int .i64 0, .int .i64 0, .bool false, .bool false, .int .i64 0, .slice none 0 0, .slice none 0 0, .int .i64 0, .bool false, .bool false, .string ⟨#[]⟩, .string ⟨#[]⟩] 94)
    rw [World.size_alloc] at h9
    rw [hwa, hr0]; exact h9
  have HGS : Hid (w.heap.size ≤ g) := Nat.le_of_eq hg.symm
  have HRS : Hid (w.heap.size ≤ r0) := by show w.heap.size ≤ r0; omega
  have NE : Hid (¬ g = r0) := by show ¬ g = r0; omega
  have GA : Hid (VGo w A M (finS A V M b xs (fun i => if i = 0 then s0 else s1) 0) wa) := ⟨h.grow UA.out, UA.out.mono (fun _ _ e => e.elim)⟩
  have HBG := Lib.hid bg
  have HBR := Lib.hid br
  have BA : Hid (wa.heap[ga]? = some (.cells csa 3 (0, 0))) := (UA.out.block ga (lt_of_block hba) (fun h => h)).trans hba
  have HWR : Hid (∀ i W, i < xs.length → VGo w A M (finS A V M b xs (fun i => if i = 0 then s0 else s1) i) W → Calls Tryz.prog 82 #[.pointer (some ⟨A.v, 0, none⟩), .int .i64 (b : Int), .int .i64 (xs.getD i 0), .string (if i = 0 then s0 else s1)] W fun r w' => r = .returned (.int .i64 (finS A V M b xs (fun i => if i = 0 then s0 else s1) (i + 1)).e) ∧ VGo W A (finS A V M b xs (fun i => if i = 0 then s0 else s1) i).M (finS A V M b xs (fun i => if i = 0 then s0 else s1) (i + 1)) w') := fun i W hi hW => by
    obtain ⟨p, hp, hpn⟩ := hxp i hi
    have K := finS_keeps A V M b xs (fun i => if i = 0 then s0 else s1) i
    have h9 := vwrite_any b p (n + i) (b : Int) (xs.getD i 0) rfl hp (if i = 0 then s0 else s1) hW.v (hT _ hW.u) (K.fit n hF) (by omega) (by rw [K.nb]; exact hb) (by rw [K.np]; exact hpn) (by split <;> assumption)
    have e : finS A V M b xs (fun i => if i = 0 then s0 else s1) (i + 1) = wrP A (finS A V M b xs (fun i => if i = 0 then s0 else s1) i).V (finS A V M b xs (fun i => if i = 0 then s0 else s1) i).M b p (if i = 0 then s0 else s1).data.toList := by
      show wrP A _ _ b (xs.getD i 0).toNat _ = _
      rw [hp, Int.toNat_natCast]
    rw [e]
    exact h9
  have HNB : Hid (∀ i, (finS A V M b xs (fun i => if i = 0 then s0 else s1) i).M.nb = M.nb) := fun i => (finS_keeps A V M b xs _ i).nb
  have HCA := Lib.hid hca
  have HXP := Lib.hid hxp
  generalize finS A V M b xs (fun i => if i = 0 then s0 else s1) = S at *
  obtain ⟨x0, x1, x2, x3, x4, x5, x6, x7, x8, x9, xa, xb⟩ := cells12 bg
  clear h hT hF hn hb hs0 hs1 hba hca hxp bg br
  go_enter Tryz.func54, Tryz.ntmps54
  go_upto_region 1 with fail
  rw [← hwa, ← hr0, ← hg]
  clear hwa hr0 hg
  go_wp2
  go_loopw [6, 7, 8, 13] (fun s6 s7 s8 s13 wr => ∃ (ii : Nat) (v6 v7 v8 : Value), ii ≤ xs.length ∧ s13 = .int .i64 (ii : Int) ∧ s6 = v6 ∧ s7 = v7 ∧ s8 = v8 ∧ Hid (∀ j, j < ii → (S (j + 1)).e = 0) ∧ Hid (VGo w A M (S ii) wr) ∧ Hid (wr.heap[g]? = some (.cells #[.int .i64 id, .int .i64 turn, .bool ss, .bool cc, .int .i64 (b : Int), .slice a1 n1 q1, .slice (some ⟨ga, 0, none⟩) xs.length q2, .int .i64 pages, .bool cl, .bool gd, .string s0, .string s1] 94 (0, 0))) ∧ Hid (wr.heap[r0]? = some (.cells #[.int .i64 0, .int .i64 0, .bool false, .bool false, .int .i64 0, .slice none 0 0, .slice none 0 0, .int .i64 0, .bool false, .bool false, .string ⟨#[]⟩, .string ⟨#[]⟩] 94 (0, 0))) ∧ Hid (wr.heap[ga]? = some (.cells csa 3 (0, 0)))) (fun _ _ _ i _ => xs.length - (intOf i).toNat)
  case atStart => exact ⟨0, _, _, _, Nat.zero_le _, rfl, rfl, rfl, rfl, (fun j hj => absurd hj (Nat.not_lt_zero j)), GA, HBG, HBR, BA⟩
  case round =>
    clear x0 x1 x2 x3 x4 x5 x6 x7 x8 x9 xa xb GA HBG HBR BA
    obtain ⟨ii, v6, v7, v8, hi, rfl, rfl, rfl, rfl, HE, HG, BG, BR, BA⟩ := hrel
    by_cases h0 : ii < xs.length
    · have di : decide ((ii : Int) < (xs.length : Int)) = true := decide_eq_true (by omega)
      have di2 : decide (ii < xs.length) = true := decide_eq_true h0
      have cP : wr.cell? ⟨ga, ii, none⟩ = some (.int .i64 (xs.getD ii 0)) := by
        rw [cell_of BA.out, HCA.out ii h0]
        unfold vals
        rw [List.getElem?_map, List.getElem?_eq_getElem h0, List.getD_eq_getElem?_getD, List.getElem?_eq_getElem h0]; rfl
      have i1 : (0 : Int) ≤ (ii : Int) := by omega
      have i2 : (ii : Int) < (xs.length : Int) := by omega
      have i3 : (ii : Int) < 2 := by omega
      obtain ⟨pz, hpz⟩ : ∃ pz, xs.getD ii 0 = pz := ⟨_, rfl⟩
      obtain ⟨sm, hsm⟩ : ∃ sm, (if ii = 0 then s0 else s1) = sm := ⟨_, rfl⟩
      have HW1 := Lib.hid (fun W hW => HWR.out ii W h0 hW)
      rw [hpz, hsm] at HW1
      rw [hpz] at cP
      have csm' : wr.cell? ⟨g, 10 + ii, none⟩ = some (.string sm) := by
        have hi2 : ii = 0 ∨ ii = 1 := by omega
        rcases hi2 with rfl | rfl
        · rw [← hsm]; exact cell_of BG.out 10
        · rw [← hsm]; exact cell_of BG.out 11
      have HKB : Hid (∀ W : World, Hid (W.heap[g]? = some (.cells #[.int .i64 id, .int .i64 turn, .bool ss, .bool cc, .int .i64 (b : Int), .slice a1 n1 q1, .slice (some ⟨ga, 0, none⟩) xs.length q2, .int .i64 pages, .bool cl, .bool gd, .string s0, .string s1] 94 (0, 0))) → W.cell? ⟨g, 4, none⟩ = some (.int .i64 (b : Int)) ∧ W.cell? ⟨g, 10 + ii, none⟩ = some (.string sm) ∧ Hid (W.heap[g]? = some (.cells #[.int .i64 id, .int .i64 turn, .bool ss, .bool cc, .int .i64 (b : Int), .slice a1 n1 q1, .slice (some ⟨ga, 0, none⟩) xs.length q2, .int .i64 pages, .bool cl, .bool gd, .string s0, .string s1] 94 (0, 0)))) := fun W hW => ⟨cell_of hW.out 4, by
        have hi2 : ii = 0 ∨ ii = 1 := by omega
        rcases hi2 with rfl | rfl
        · rw [← hsm]; exact cell_of hW.out 10
        · rw [← hsm]; exact cell_of hW.out 11, hW⟩
      have BGd : Hid (wr.drew.heap[g]? = some (.cells #[.int .i64 id, .int .i64 turn, .bool ss, .bool cc, .int .i64 (b : Int), .slice a1 n1 q1, .slice (some ⟨ga, 0, none⟩) xs.length q2, .int .i64 pages, .bool cl, .bool gd, .string s0, .string s1] 94 (0, 0))) := BG.out
      have GD : Hid (VGo w A M (S ii) wr.drew) := ⟨HG.out.v.grow (Upd.refl _ _).drew, HG.out.u.trans ((Upd.refl noBlock wr).drew.mono (fun _ _ e => e.elim))⟩
      have HVG : Hid (∀ W, VGo wr.drew A (S ii).M (S (ii + 1)) W → VGo w A M (S (ii + 1)) W ∧ W.heap[g]? = some (.cells #[.int .i64 id, .int .i64 turn, .bool ss, .bool cc, .int .i64 (b : Int), .slice a1 n1 q1, .slice (some ⟨ga, 0, none⟩) xs.length q2, .int .i64 pages, .bool cl, .bool gd, .string s0, .string s1] 94 (0, 0)) ∧ W.heap[r0]? = some (.cells #[.int .i64 0, .int .i64 0, .bool false, .bool false, .int .i64 0, .slice none 0 0, .slice none 0 0, .int .i64 0, .bool false, .bool false, .string ⟨#[]⟩, .string ⟨#[]⟩] 94 (0, 0)) ∧ W.heap[ga]? = some (.cells csa 3 (0, 0))) := fun W hW =>
        ⟨⟨hW.v, GD.out.u.trans (VOwn.same (HNB.out ii) hW.u)⟩, GD.out.v.keepT 94 (by decide) hW.u g _ BG.out, GD.out.v.keepT 94 (by decide) hW.u r0 _ BR.out, GD.out.v.keepT 3 (by decide) hW.u ga _ BA.out⟩
      clear hsm hpz
      by_cases he : (S (ii + 1)).e = 0
      · go_upto_region 4 with fail
        go_region_held3 (fun W => W.cell? ⟨g, 4, none⟩ = some (.int .i64 (b : Int)) ∧ W.cell? ⟨g, 10 + ii, none⟩ = some (.string sm) ∧ Hid (W.heap[g]? = some (.cells #[.int .i64 id, .int .i64 turn, .bool ss, .bool cc, .int .i64 (b : Int), .slice a1 n1 q1, .slice (some ⟨ga, 0, none⟩) xs.length q2, .int .i64 pages, .bool cl, .bool gd, .string s0, .string s1] 94 (0, 0))))
          (first | with_reducible exact HKB.out _ BG | with_reducible exact HKB.out _ BGd | with_reducible exact HKB.out _ K5)
          (first
          | (go_at_call 82; (with_reducible refine (HW1.out _ GD.out).mono ?_); rintro r w5 ⟨rfl, hv⟩; obtain ⟨h5, h6, h7, h8⟩ := HVG.out _ hv; have G5 := Lib.hid h5; have K5 := Lib.hid h6; have R5 := Lib.hid h7; have A5 := Lib.hid h8; clear hv h5 h6 h7 h8))
        go_wp2
        go_roundw
        case rel => exact ⟨ii + 1, _, _, _, by omega, by go_num, rfl, rfl, rfl, (fun j hj => by
          by_cases ej : j = ii
          · subst ej; exact he
          · exact HE.out j (by omega)), G5, K5, R5, A5⟩
        case measure => simp [intOf]; omega
      · have d1 : ((S (ii + 1)).e != 0) = true := bne_iff_ne.2 he
        go_upto_region 4 with fail
        go_region_held3 (fun W => W.cell? ⟨g, 4, none⟩ = some (.int .i64 (b : Int)) ∧ W.cell? ⟨g, 10 + ii, none⟩ = some (.string sm) ∧ Hid (W.heap[g]? = some (.cells #[.int .i64 id, .int .i64 turn, .bool ss, .bool cc, .int .i64 (b : Int), .slice a1 n1 q1, .slice (some ⟨ga, 0, none⟩) xs.length q2, .int .i64 pages, .bool cl, .bool gd, .string s0, .string s1] 94 (0, 0))))
          (first | with_reducible exact HKB.out _ BG | with_reducible exact HKB.out _ BGd | with_reducible exact HKB.out _ K5)
          (first
          | (go_at_call 82; (with_reducible refine (HW1.out _ GD.out).mono ?_); rintro r w5 ⟨rfl, hv⟩; obtain ⟨h5, h6, h7, h8⟩ := HVG.out _ hv; have G5 := Lib.hid h5; have K5 := Lib.hid h6; have R5 := Lib.hid h7; have A5 := Lib.hid h8; clear hv h5 h6 h7 h8))
        obtain ⟨y0, y1, y2, y3, y4, y5, y6, y7, y8, y9, ya, yb⟩ := cells12 K5.out
        obtain ⟨z0, z1, z2, z3, z4, z5, z6, z7, z8, z9, za, zb⟩ := cells12 R5.out
        obtain ⟨f0, f1, f2, f3, f4, f5, f6, f7, f8, f9, fa, fb⟩ := frees12 R5.out
        obtain ⟨we, hwe⟩ : ∃ we, we = set12C w5 r0 (.int .i64 id) (.int .i64 turn) (.bool ss) (.bool cc) (.int .i64 (b : Int)) (.slice a1 n1 q1) (.slice (some ⟨ga, 0, none⟩) xs.length q2) (.int .i64 pages) (.bool cl) (.bool gd) (.string s0) (.string s1) := ⟨_, rfl⟩
        have u3 : Upd (oneBlock r0) w5 we := by rw [hwe]; exact set12C_upd _ _ _ _ _ _ _ _ _ _ _ _ _ _
        have RE : Hid (we.heap[r0]? = some (.cells #[.int .i64 id, .int .i64 turn, .bool ss, .bool cc, .int .i64 (b : Int), .slice a1 n1 q1, .slice (some ⟨ga, 0, none⟩) xs.length q2, .int .i64 pages, .bool cl, .bool gd, .string s0, .string s1] 94 (0, 0))) := by rw [hwe]; exact set12C_at R5.out
        have VE := Lib.hid (G5.out.v.alien R5.out (by decide) (by decide) u3)
        have UE : Hid (Upd (VOwn A M.nb) w we) := G5.out.u.past u3 HRS.out
        unfold set12C at hwe
        clear u3
        go_wp2_with fail
        rw [← hwe]
        exact bodyPost_ret_by (ret_cell2F rfl _ _ r0 _ _ _ _ _ rfl RE.out Tryz.underlying94 rfl sdInfo rfl) rfl (.inr ⟨ii, h0, HE.out, he, rfl, ⟨VE.out, UE.out⟩⟩)
    · obtain rfl : ii = xs.length := by omega
      obtain ⟨y0, y1, y2, y3, y4, y5, y6, y7, y8, y9, ya, yb⟩ := cells12 BG.out
      obtain ⟨k0, k1, k2, k3, k4, k5, k6, k7, k8, k9, ka, kb⟩ := frees12 BG.out
      obtain ⟨wy, hwy⟩ : ∃ wy, wy = (((wr.setCell ⟨g, 8, none⟩ (.bool true)).setCell ⟨g, 9, none⟩ (.bool true)).setCell ⟨g, 10, none⟩ (.string ⟨#[]⟩)).setCell ⟨g, 11, none⟩ (.string ⟨#[]⟩) := ⟨_, rfl⟩
      have u7 : Upd (oneBlock g) wr wy := by rw [hwy]; exact ((((Upd.refl (oneBlock g) wr).setCell (p := ⟨g, 8, none⟩) (.inl rfl) _).setCell (p := ⟨g, 9, none⟩) (.inl rfl) _).setCell (p := ⟨g, 10, none⟩) (.inl rfl) _).setCell (p := ⟨g, 11, none⟩) (.inl rfl) _
      have b7 : wy.heap[g]? = some (.cells #[.int .i64 id, .int .i64 turn, .bool ss, .bool cc, .int .i64 (b : Int), .slice a1 n1 q1, .slice (some ⟨ga, 0, none⟩) xs.length q2, .int .i64 pages, .bool true, .bool true, .string ⟨#[]⟩, .string ⟨#[]⟩] 94 (0, 0)) := by
        rw [hwy]; exact block_set (block_set (block_set (block_set BG.out _) _) _) _
      have r7 : wy.heap[r0]? = some (.cells #[.int .i64 0, .int .i64 0, .bool false, .bool false, .int .i64 0, .slice none 0 0, .slice none 0 0, .int .i64 0, .bool false, .bool false, .string ⟨#[]⟩, .string ⟨#[]⟩] 94 (0, 0)) := (u7.block r0 (lt_of_block BR.out) (fun e => NE.out (Eq.symm e))).trans BR.out
      have V7 := Lib.hid (HG.out.v.alien BG.out (by decide) (by decide) u7)
      have U7 := Lib.hid (HG.out.u.past u7 HGS.out)
      go_upto_region 9 with fail
      rw [← hwy]
      clear hwy y0 y1 y2 y3 y4 y5 y6 y7 y8 y9 ya yb k0 k1 k2 k3 k4 k5 k6 k7 k8 k9 ka kb u7
      obtain ⟨y0, y1, y2, y3, y4, y5, y6, y7, y8, y9, ya, yb⟩ := cells12 b7
      obtain ⟨z0, z1, z2, z3, z4, z5, z6, z7, z8, z9, za, zb⟩ := cells12 r7
      obtain ⟨f0, f1, f2, f3, f4, f5, f6, f7, f8, f9, fa, fb⟩ := frees12 r7
      obtain ⟨we, hwe⟩ : ∃ we, we = set12C wy r0 (.int .i64 id) (.int .i64 turn) (.bool ss) (.bool cc) (.int .i64 (b : Int)) (.slice a1 n1 q1) (.slice (some ⟨ga, 0, none⟩) xs.length q2) (.int .i64 pages) (.bool true) (.bool true) (.string ⟨#[]⟩) (.string ⟨#[]⟩) := ⟨_, rfl⟩
      have u3 : Upd (oneBlock r0) wy we := by rw [hwe]; exact set12C_upd _ _ _ _ _ _ _ _ _ _ _ _ _ _
      have RE : Hid (we.heap[r0]? = some (.cells #[.int .i64 id, .int .i64 turn, .bool ss, .bool cc, .int .i64 (b : Int), .slice a1 n1 q1, .slice (some ⟨ga, 0, none⟩) xs.length q2, .int .i64 pages, .bool true, .bool true, .string ⟨#[]⟩, .string ⟨#[]⟩] 94 (0, 0))) := by rw [hwe]; exact set12C_at r7
      have VE := Lib.hid (V7.out.alien r7 (by decide) (by decide) u3)
      have UE : Hid (Upd (VOwn A M.nb) w we) := U7.out.past u3 HRS.out
      unfold set12C at hwe
      clear u3 b7 r7
      go_wp2_with fail
      rw [← hwe]
      exact bodyPost_ret_by (ret_cell2F rfl _ _ r0 _ _ _ _ _ rfl RE.out Tryz.underlying94 rfl sdInfo rfl) rfl (.inl ⟨HE.out, rfl, ⟨VE.out, UE.out⟩⟩)
end
end Go.Proofs.YtoledgpcgjdjjaaGreatDoor
