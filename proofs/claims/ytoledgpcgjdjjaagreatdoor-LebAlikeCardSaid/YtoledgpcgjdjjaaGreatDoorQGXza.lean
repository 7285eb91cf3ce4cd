import Derived.Test.YtoledgpcgjdjjaaGreatDoorQGXn
import Derived.StillTailTactics
import Derived.Deep.RegionHeld3
import Derived.Deep.RegionHeldLaw
import Derived.Carry
import Derived.Test.YtoledgpcgjdjjaaGreatDoorQGFe
/- restore: a page that is lost, by the others of its group. -/
namespace Go.Proofs.YtoledgpcgjdjjaaGreatDoor
open F
open Go.RowKit Pm Cm
set_option linter.unusedVariables false
attribute [local irreducible] openL decUp empUp Lib.onesCount parT sealed beZ valN labelL

theorem strInfoV : (Tryz.prog.info? 9).map (fun i => (i.zero, i.size, i.bytes)) = some (some (.string ⟨#[]⟩), 1, 16) := by kernel_rfl
def rdN (b : Nat) : Nat → Ch → Ch
  | 0, M => M
  | k + 1, M => (rdN b k M).readM b
def oth (lost : Nat) (L : List Int) : List Int := L.filter fun x => !(x == (lost : Int))
theorem oth_succ (lost : Nat) (L : List Int) (i : Nat) (h : i < L.length) : oth lost (L.take (i + 1)) = if L.getD i 0 = (lost : Int) then oth lost (L.take i) else oth lost (L.take i) ++ [L.getD i 0] := by
  rw [take_at L 0 i h]
  unfold oth
  rw [List.filter_append, List.filter_cons, List.filter_nil]
  by_cases e : L.getD i 0 = (lost : Int)
  · rw [if_pos e, e]; simp
  · rw [if_neg e, if_pos (by rw [beq_eq_false_iff_ne.2 e]; rfl)]
theorem oth_len (lost : Nat) (L : List Int) : (oth lost L).length ≤ L.length := by
  unfold oth; exact List.length_filter_le _ _
def othS (F : Nat → ByteArray) (l : List Int) : List ByteArray := l.map fun x => F x.toNat
theorem othS_len (F : Nat → ByteArray) (l : List Int) : (othS F l).length = l.length := List.length_map ..
theorem own_capV {w : World} {B g n q : Nat} {xs : List Int} (h : Pr.OwnV w B (.slice (some ⟨g, 0, none⟩) n q) xs) : n ≤ q ∧ n = xs.length := by
  obtain ⟨hl, h⟩ := h
  rcases h with ⟨h1, h2⟩ | ⟨g', cap, cur, hv, hb, hg, hnc, hcm, hsz, htake⟩
  · cases h1
  · injection hv with e1 e2 e3
    subst e3
    omega
theorem step_append_v {P : Program} {ops : Array Oper} {o : Oper} {a : Act} {w : World} {K : Act → World → Prop} {Q : Exit → Act → World → Prop} {E : Prop} (d : Nat) (hd : o.dst = some d)
    (hgd : o.guard = none) (s x : Operand) (t : TypeId) (ho : o.op = .call { callee := .builtin .append, args := #[s, x], argTypes := #[t, t] })
    (base : Nat) (e : TypeId) (i : TypeInfo) (z : Value) (by' : Nat) (ht : P.underlying t = some (.slice e)) (hi : P.info? e = some i) (hz : i.zero = some z)
    (hsize : i.size = 1) (hby : i.bytes = by') (hzs : z.cells.size = 1)
    (v : Value) (n : Nat) (ys : List Value) (hs : a.eval s = v) (hown : w.ownsRow base e 1 v n ys)
    (B : Nat) (A : Option Addr) (m c : Nat) (vs : List Value) (hx : a.eval x = .slice A m c) (hr : Row1 w B A m vs) (h1 : ∀ u ∈ vs, u.oneCell' = true)
    (h63 : n + m ≤ maxLen) (hbytes : (n + m) * by' ≤ 140737488355328) (hbase : base ≤ w.heap.size)
    (h : ∀ v' w', w'.ownsRow base e 1 v' (n + m) (ys ++ vs) → w.grownBy w' v.ownBlock → K { a with tmps := a.tmps.setIfInBounds d v' } w') :
    if Region.wanted o (yielded ops a.tmps) = true then Oper.wp P o a w K Q else E :=
  step_append_vals hgd s x t ho base e i z by' ht hi hz hsize hby hzs v n ys hs hown B A m c vs hx hr h1 h63 hbytes hbase fun v' w' h2 h3 => by
    have h9 := h v' w' h2 h3
    have e : a.put o.dst v' = { a with tmps := a.tmps.setIfInBounds d v' } := by rw [hd]; rfl
    rw [e]; exact h9
theorem own_ints_take {w : World} {B g n q k : Nat} {xs : List Int} (h : Pr.OwnV w B (.slice (some ⟨g, 0, none⟩) n q) xs) (h0 : 0 < xs.length) (hk : k ≤ xs.length) : Ints w w.heap.size (some ⟨g, 0, none⟩) k (xs.take k) := by
  obtain ⟨ga, cs, ca, hva, hba, hca⟩ := own_at0 h h0
  injection hva with e1 e2 e3
  injection e1 with e1
  injection e1 with e1
  subst e1
  refine ⟨by rw [List.length_take]; omega, fun _ => ⟨g, 0, rfl, lt_of_block hba, fun i hi => ?_⟩⟩
  rw [Nat.zero_add, cell_of hba, hca i (by omega)]
  unfold vals
  rw [List.getElem?_map, List.getElem?_eq_getElem (show i < xs.length by omega), List.getD_eq_getElem?_getD, List.getElem?_take, if_pos hi, List.getElem?_eq_getElem (show i < xs.length by omega)]; rfl
theorem own_cell {w : World} {B g n q k : Nat} {xs : List Int} (h : Pr.OwnV w B (.slice (some ⟨g, 0, none⟩) n q) xs) (hk : k < xs.length) : w.cell? ⟨g, k, none⟩ = some (.int .i64 (xs.getD k 0)) ∧ ∃ cs, w.heap[g]? = some (.cells cs 3 (0, 0)) := by
  obtain ⟨ga, cs, ca, hva, hba, hca⟩ := own_at0 h (by omega)
  injection hva with e1 e2 e3
  injection e1 with e1
  injection e1 with e1
  subst e1
  refine ⟨?_, cs, hba⟩
  rw [cell_of hba, hca k hk]
  unfold vals
  rw [List.getElem?_map, List.getElem?_eq_getElem hk, List.getD_eq_getElem?_getD, List.getElem?_eq_getElem hk]; rfl
theorem oth_mem {lost p : Nat} {L : List Int} {i : Nat} (hi : i < L.length) (hp : L.getD i 0 = (p : Int)) (hne : p ≠ lost) : (p : Int) ∈ oth lost L := by
  unfold oth
  rw [List.mem_filter]
  refine ⟨?_, by simp; omega⟩
  rw [← hp, List.getD_eq_getElem?_getD, List.getElem?_eq_getElem hi]
  exact List.getElem_mem _
theorem getD_mem {L : List Int} {i : Nat} (hi : i < L.length) : L.getD i 0 ∈ L := by
  rw [List.getD_eq_getElem?_getD, List.getElem?_eq_getElem hi]
  exact List.getElem_mem _
section
variable {A : Vp} {M : Ch} {V : Vo} {w w' : World}
theorem VolIn.grownS (h : VolIn w A M V) {B : Nat} {v : Value} {Ss : List ByteArray} (hO : OwnS w B 9 v Ss) (hg : w.grownBy w' v.ownBlock) : VolIn w' A M V := by
  obtain ⟨hl, ho⟩ := hO
  rcases ho with ⟨rfl, h2⟩ | ⟨x, cap, cur, rfl, hb, hx, r⟩
  · exact h.grow ⟨hg.os, hg.tape, hg.output, hg.size, fun i hi _ => hg.block i hi (by intro e; cases e)⟩
  · exact h.alien hx (by decide) (by decide) ⟨hg.os, hg.tape, hg.output, hg.size, fun i hi hn => hg.block i hi (by
      intro e
      have e2 : i = x := Option.some.inj e
      exact hn e2)⟩
theorem Upd.grownS {w0 : World} {R : Nat → Prop} (hu : Upd R w0 w) {B : Nat} {v : Value} {Ss : List ByteArray} (hO : OwnS w B 9 v Ss) (hB : w0.heap.size ≤ B) (hg : w.grownBy w' v.ownBlock) : Upd R w0 w' := by
  obtain ⟨hl, ho⟩ := hO
  rcases ho with ⟨rfl, h2⟩ | ⟨x, cap, cur, rfl, hb, hx, r⟩
  · exact hu.trans (⟨hg.os, hg.tape, hg.output, hg.size, fun i hi _ => hg.block i hi (by intro e; cases e)⟩)
  · exact hu.past ⟨hg.os, hg.tape, hg.output, hg.size, fun i hi hn => hg.block i hi (by
      intro e
      have e2 : i = x := Option.some.inj e
      exact hn e2)⟩ (by omega)
theorem cells_grownS {T : TypeId} {g B : Nat} {a : Array Value} {v : Value} {Ss : List ByteArray} (hi : w.heap[g]? = some (.cells a T (0, 0))) (hT : ¬ T = 9) (hO : OwnS w B 9 v Ss) (hg : w.grownBy w' v.ownBlock) : w'.heap[g]? = some (.cells a T (0, 0)) := by
  refine (hg.block g (lt_of_block hi) (fun e => ?_)).trans hi
  obtain ⟨hl, h⟩ := hO
  rcases h with ⟨rfl, h2⟩ | ⟨x, cap, cur, rfl, hb, hx, r⟩
  · cases e
  · have e2 : g = x := Option.some.inj e
    exact apart hi hx hT e2
theorem OwnS.keepV {B : Nat} {v : Value} {xs : List ByteArray} (h : OwnS w B 9 v xs) (hk : ∀ (i : Nat) (a : Array Value), w.heap[i]? = some (.cells a 9 (0, 0)) → w'.heap[i]? = some (.cells a 9 (0, 0))) : OwnS w' B 9 v xs := by
  obtain ⟨hl, h⟩ := h
  refine ⟨hl, ?_⟩
  rcases h with ⟨h1, h2⟩ | ⟨g, cap, cur, rfl, hb, hg, r⟩
  · exact .inl ⟨h1, h2⟩
  · exact .inr ⟨g, cap, cur, rfl, hb, hk g _ hg, r⟩
def RdK (W w' : World) : Prop := W.heap.size ≤ w'.heap.size ∧ (∀ T : TypeId, (¬ T = 81 ∧ ¬ T = 4 ∧ ¬ T = 125 ∧ ¬ T = 132 ∧ ¬ T = 147 ∧ ¬ T = 177) → ∀ (i : Nat) (a : Array Value), W.heap[i]? = some (.cells a T (0, 0)) → w'.heap[i]? = some (.cells a T (0, 0))) ∧ True
theorem RdK.of {O : Out} (h : VolIn w A M V) (hv : VGo w A M O w') : RdK w w' := ⟨hv.u.size, fun T hT i a hi => h.keepT T hT hv.u i a hi, trivial⟩
set_option maxRecDepth 100000 in
set_option maxHeartbeats 6400000 in
theorem restore_any (kk lost : Nat) (i0 t0 : Int) (ss cc : Bool) (b ga q1 gp q2 pages : Nat) (cl gd : Bool) (s0 s1 : ByteArray) (xs ys : List Int) (B px : Nat) (L : List Int) (F : Nat → ByteArray) (st ft : Nat → Int)
    (h : VolIn w A M V) (hD : Pr.OwnV w B (.slice (some ⟨ga, 0, none⟩) xs.length q1) xs) (hP : Pr.OwnV w B (.slice (some ⟨gp, 0, none⟩) ys.length q2) ys)
    (hxl : xs.length ≤ 64) (hyl : ys.length ≤ 2) (hpg : pages < xs.length) (hxp : Pr.Pages (xs.take (pages + 1))) (hlo : lost < 64) (hg : Pr.grp lost = (kk : Int)) (hk : kk < ys.length) (hy : ys.getD kk 0 = (px : Int))
    (hL : Pr.ml (kk : Int) (xs.take (pages + 1)) ++ [(px : Int)] = L) (hLp : ∀ i, i < L.length → ∃ p : Nat, L.getD i 0 = (p : Int)) (hF : ∀ p, (F p).size ≤ 5000)
    (HR : ∀ (r : Nat) (W : World) (p : Nat), r < L.length → VGo w A M ⟨0, V, rdN b r M⟩ W → (p : Int) ∈ L → p ≠ lost → Calls Tryz.prog 45 #[.pointer (some ⟨A.v, 0, none⟩), .int .i64 (b : Int), .int .i64 (p : Int)] W fun e w' => e = .returned (.tuple #[.agg #[.int .i64 (st p), .string (F p), .int .i64 (ft p)], .int .i64 0]) ∧ VGo w A M ⟨0, V, rdN b (r + 1) M⟩ w' ∧ RdK W w') :
    Calls Tryz.prog 46 #[.pointer (some ⟨A.v, 0, none⟩), .agg #[.int .i64 i0, .int .i64 t0, .bool ss, .bool cc, .int .i64 (b : Int), .slice (some ⟨ga, 0, none⟩) xs.length q1, .slice (some ⟨gp, 0, none⟩) ys.length q2, .int .i64 (pages : Int), .bool cl, .bool gd, .string s0, .string s1], .int .i64 (lost : Int)] w fun e w' =>
      ((∀ p : Nat, (p : Int) ∈ oth lost L → st p = 1) ∧ e = .returned (.tuple #[.string (xorB A.room (othS F (oth lost L))), .int .i64 0]) ∧ VGo w A M ⟨0, V, rdN b (oth lost L).length M⟩ w') ∨ ((∃ p : Nat, (p : Int) ∈ oth lost L ∧ st p ≠ 1) ∧ e = .returned (.tuple #[.string ⟨#[]⟩, .int .i64 40]) ∧ ∃ r, r ≤ L.length ∧ VGo w A M ⟨0, V, rdN b r M⟩ w') := by
  obtain ⟨hq1, -⟩ := own_capV hD
  obtain ⟨wa, hwa⟩ : ∃ wa, wa = w.alloc (.cells #[.int .i64 i0, .int .i64 t0, .bool ss, .bool cc, .int .i64 (b : Int), .slice (some ⟨ga, 0, none⟩) xs.length q1, .slice (some ⟨gp, 0, none⟩) ys.length q2, .int .i64 (pages : Int), .bool cl, .bool gd, .string s0, .string s1] 94) := ⟨_, rfl⟩
  obtain ⟨g, hgw⟩ : ∃ g, g = w.heap.size := ⟨_, rfl⟩
  have UA : Hid (Upd noBlock w wa) := by rw [hwa]; exact (Upd.refl _ _).alloc _
  have BG : Hid (wa.heap[g]? = some (.cells #[.int .i64 i0, .int .i64 t0, .bool ss, .bool cc, .int .i64 (b : Int), .slice (some ⟨ga, 0, none⟩) xs.length q1, .slice (some ⟨gp, 0, none⟩) ys.length q2, .int .i64 (pages : Int), .bool cl, .bool gd, .string s0, .string s1] 94 (0, 0))) := by rw [hwa, hgw]; exact heap_alloc_new w _
  have HGR : Hid (∀ W, Calls Tryz.prog 75 #[.int .i64 (lost : Int)] W fun e w' => e = .returned (.int .i64 (kk : Int)) ∧ W = w') := fun W => by
    have h9 := Pr.group_any lost W (by omega)
    rw [hg] at h9
    exact h9
  have hsl : ∀ W : World, (Instr.sliceAt 57 (.slice (some ⟨ga, 0, none⟩) xs.length q1) none (some (.int .i64 ((pages : Int) + 1))) none).run Tryz.prog W = .ok (.slice (some ⟨ga, 0, none⟩) (pages + 1) q1) W := fun W => by
    obtain ⟨i0, hi0, hz0, hz1, hz2⟩ := Pr.intParts7
    have h9 := run_slice_lo1 (P := Tryz.prog) W 57 3 i0 Tryz.underlying57 hi0 (some ⟨ga, 0, none⟩) xs.length q1 (pages + 1) (by omega) hq1
    simpa [show ¬ q1 = 0 by omega, Addr.add] using h9
  have hwp : IntKind.i64.wrap ((pages : Int) + 1) = (pages : Int) + 1 := by rw [IntKind.wrap_i64]; omega
  obtain ⟨x0, x1, x2, x3, x4, x5, x6, x7, x8, x9, xa, xb⟩ := cells12 BG.out
  have HH := Lib.hid h
  have HD := Lib.hid hD
  have HP := Lib.hid hP
  have HQ1 := Lib.hid hq1
  have HXP := Lib.hid hxp
  have HL := Lib.hid hL
  have HLP := Lib.hid hLp
  have HFS := Lib.hid hF
  have HRR := Lib.hid HR
  have HY := Lib.hid hy
  clear h hD hP hq1 hxp hL hLp hF HR hg hy
  go_enter Tryz.func46, Tryz.ntmps46
  go_upto_region 1 with fail
  rw [← hwa, ← hgw]
  clear hwa hgw
  go_upto_region 4 with (go_at_call 75; (with_reducible refine (HGR.out _).mono ?_); rintro r w3 ⟨rfl, rfl⟩)
  obtain ⟨wx, hwx⟩ : ∃ wx, wx = wa.alloc (.cells #[.slice (some ⟨ga, 0, none⟩) (pages + 1) q1, .slice none 0 0] 91) := ⟨_, rfl⟩
  obtain ⟨pl, hpl⟩ : ∃ pl, pl = wa.heap.size := ⟨_, rfl⟩
  have UX : Hid (Upd noBlock wa wx) := by rw [hwx]; exact (Upd.refl _ _).alloc _
  have BP : Hid (wx.heap[pl]? = some (.cells #[.slice (some ⟨ga, 0, none⟩) (pages + 1) q1, .slice none 0 0] 91 (0, 0))) := by rw [hwx, hpl]; exact heap_alloc_new wa _
  rw [← hwx, ← hpl]
  have UWX : Hid (Upd noBlock w wx) := UA.out.trans UX.out
  have BGX : Hid (wx.heap[g]? = some (.cells #[.int .i64 i0, .int .i64 t0, .bool ss, .bool cc, .int .i64 (b : Int), .slice (some ⟨ga, 0, none⟩) xs.length q1, .slice (some ⟨gp, 0, none⟩) ys.length q2, .int .i64 (pages : Int), .bool cl, .bool gd, .string s0, .string s1] 94 (0, 0))) := (UX.out.block g (lt_of_block BG.out) id).trans BG.out
  clear hwx hpl x0 x1 x2 x3 x4 x5 x6 x7 x8 x9 xa xb
  obtain ⟨D, hDD⟩ : ∃ D, Pr.ml (kk : Int) (xs.take (pages + 1)) = D := ⟨_, rfl⟩
  have hDn : D.length ≤ 64 := by
    have h9 := Pr.ml_len (kk : Int) xs (pages + 1)
    rw [hDD] at h9; omega
  have HDN := Lib.hid hDn
  rw [hDD] at HL
  have HDX := Lib.hid (HD.out.grow UWX.out)
  have HPX := Lib.hid (HP.out.grow UWX.out)
  obtain ⟨i0', hi0, hz0, hz1, hz2⟩ := Pr.intParts7
  have HKA : Hid (∀ W, Hid (Upd noBlock wx W) → W.cell? ⟨pl, 0, none⟩ = some (.slice (some ⟨ga, 0, none⟩) (pages + 1) q1) ∧ W.cell? ⟨pl, 1, none⟩ = some (.slice none 0 0) ∧ W.cell? ⟨g, 6, none⟩ = some (.slice (some ⟨gp, 0, none⟩) ys.length q2) ∧ W.cell? ⟨gp, kk, none⟩ = some (.int .i64 (px : Int)) ∧ Hid (Upd noBlock wx W)) := fun W hW => by
    have h1 := (hW.out.block pl (lt_of_block BP.out) id).trans BP.out
    have h2 := (hW.out.block g (lt_of_block BGX.out) id).trans BGX.out
    have h3 := (own_cell (HPX.out.grow hW.out) hk).1
    rw [HY.out] at h3
    exact ⟨cell_of h1 0, cell_of h1 1, cell_of h2 6, h3, hW⟩
  have HMC : Hid (∀ W, Hid (Upd noBlock wx W) → Calls Tryz.prog 76 #[.agg #[.slice (some ⟨ga, 0, none⟩) (pages + 1) q1, .slice none 0 0], .int .i64 (kk : Int)] W fun e w' => ∃ v, e = .returned v ∧ Pr.OwnV w' wx.heap.size v D ∧ Upd noBlock W w') := fun W hW => by
    have h9 := Pr.members_any (some ⟨ga, 0, none⟩) (pages + 1) q1 W.heap.size (.slice none 0 0) (xs.take (pages + 1)) (kk : Int) W (own_ints_take (HDX.out.grow hW.out) (by omega) (by omega)) (Nat.le_refl _) HXP.out (by omega)
    rw [hDD] at h9
    exact h9.mono fun e w' ⟨v, he, ho, hu⟩ => ⟨v, he, ho.more hW.out.size, hu⟩
  have V0 : Hid (Upd noBlock wx wx) := Upd.refl _ _
  have V1 : Hid (Upd noBlock wx wx.drew) := (Upd.refl _ _).drew
  have HAL : Hid (∀ (W : World) O, Hid (Upd noBlock wx W) → Hid (Upd noBlock wx (W.alloc O))) := fun W O h => h.out.alloc O
  have HDR : Hid (∀ (W : World), Hid (Upd noBlock wx W) → Hid (Upd noBlock wx W.drew)) := fun W h => h.out.drew
  have i1 : (0 : Int) ≤ (kk : Int) := by omega
  have i2 : (kk : Int) < (ys.length : Int) := by omega
  have VA : Hid (Upd noBlock wx (wx.alloc (.cells #[.int .i64 (px : Int)] 3)).drew) := ((Upd.refl _ _).alloc _).drew
  have RA : Hid (∀ W, Upd noBlock (wx.alloc (.cells #[.int .i64 (px : Int)] 3)).drew W → Row1 W (wx.heap.size + 1) (some ⟨wx.heap.size, 0, none⟩) 1 [.int .i64 (px : Int)]) := fun W hW => (Row1.one wx 3 (.int .i64 (px : Int))).grow ((Upd.refl _ _).drew.trans hW) (by rw [World.size_alloc]; exact Nat.le_refl _)
  obtain ⟨ml, hml⟩ : ∃ ml, L.length = ml := ⟨_, rfl⟩
  have HML := Lib.hid hml
  have HSLI : Hid (∀ W v, Pr.OwnV W wx.heap.size v L → ∃ a q, v = .slice a ml q) := fun W v ho => by
    obtain ⟨a1, q1, rfl, -, -, -⟩ := ho.sl
    exact ⟨a1, q1, by rw [HML.out]⟩
  have HML2 : Hid (ml ≤ 65 ∧ 0 < ml) := by
    show ml ≤ 65 ∧ 0 < ml
    rw [← hml, ← HL.out, List.length_append]
    exact ⟨Nat.add_le_add hDn (Nat.le_refl 1), Nat.succ_pos _⟩
  clear hDD hDn hml
  go_cut [35, 36, 37] from 25 to 37 (fun s35 s36 s37 wz => ∃ a q, s35 = .slice a ml q ∧ s36 = .int .i64 (ml : Int) ∧ s37 = .int .i64 0 ∧ Hid (Pr.OwnV wz wx.heap.size (.slice a ml q) L) ∧ Hid (Upd noBlock wx wz))
  case first =>
    go_region_held_law (fun W => W.cell? ⟨pl, 0, none⟩ = some (.slice (some ⟨ga, 0, none⟩) (pages + 1) q1) ∧ W.cell? ⟨pl, 1, none⟩ = some (.slice none 0 0) ∧ W.cell? ⟨g, 6, none⟩ = some (.slice (some ⟨gp, 0, none⟩) ys.length q2) ∧ W.cell? ⟨gp, kk, none⟩ = some (.int .i64 (px : Int)) ∧ Hid (Upd noBlock wx W))
      (first | with_reducible exact HKA.out _ V0 | with_reducible exact HKA.out _ VA | with_reducible exact HKA.out _ (HAL.out _ _ V0) | with_reducible exact HKA.out _ V1 | with_reducible exact HKA.out _ V5 | with_reducible exact HKA.out _ (HAL.out _ _ V5) | with_reducible exact HKA.out _ V6 | with_reducible exact HKA.out _ (HAL.out _ _ V1) | with_reducible exact HKA.out _ (HDR.out _ V5) | with_reducible exact HKA.out _ (HDR.out _ V6))
      (first
        | (go_simp; go_at_call 76; (with_reducible refine (HMC.out _ VA).mono ?_); rintro e w5 ⟨v5, rfl, ho5, hu5⟩; have O5 := Lib.hid ho5; have V5 := Lib.hid (VA.out.trans hu5); have R5 := Lib.hid (RA.out _ hu5); clear ho5 hu5)
        | (go_simp; go_at_call 76; (with_reducible refine (HMC.out _ V1).mono ?_); rintro e w5 ⟨v5, rfl, ho5, hu5⟩; have O5 := Lib.hid ho5; have V5 := Lib.hid (V1.out.trans hu5); have R5b := Lib.hid (Row1.one w5 3 (.int .i64 (px : Int))); clear ho5 hu5)
        | (refine step_append_v 35 rfl rfl (.tmp 27) (.tmp 34) 57 rfl wx.heap.size 3 i0' _ 8 Tryz.underlying57 hi0 hz0 hz1 hz2 rfl _ D.length (vals D) rfl O5.out (wx.heap.size + 1) (some ⟨wx.heap.size, 0, none⟩) 1 1 [.int .i64 (px : Int)] rfl R5.out (by intro u hu; simp at hu; subst hu; rfl) (by have := HDN.out; simp only [maxLen]; omega) (by have := HDN.out; omega) V5.out.size ?_; intro v6 w6 hO6 hg6; simp only [List.setIfInBounds_toArray, List.set_cons_zero, List.set_cons_succ]; have O6 : Hid (Pr.OwnV w6 wx.heap.size v6 L) := (by have h9 := Pr.OwnV.snoc hO6; rw [HL.out] at h9; exact h9); have V6 : Hid (Upd noBlock wx w6) := V5.out.grownOwn hg6 (fun i hi => (O5.out.lt i hi).1); clear hO6 hg6; obtain ⟨a6, q6, rfl⟩ := HSLI.out _ _ O6.out)
        | (refine step_append_v 35 rfl rfl (.tmp 27) (.tmp 34) 57 rfl wx.heap.size 3 i0' _ 8 Tryz.underlying57 hi0 hz0 hz1 hz2 rfl _ D.length (vals D) rfl (O5.out.grow ((Upd.refl noBlock w5).alloc (.cells #[.int .i64 (px : Int)] 3))) (w5.heap.size + 1) (some ⟨w5.heap.size, 0, none⟩) 1 1 [.int .i64 (px : Int)] rfl R5b.out (by intro u hu; simp at hu; subst hu; rfl) (by have := HDN.out; simp only [maxLen]; omega) (by have := HDN.out; omega) (by have := V5.out.size; simp; omega) ?_; intro v6 w6 hO6 hg6; simp only [List.setIfInBounds_toArray, List.set_cons_zero, List.set_cons_succ]; have O6 : Hid (Pr.OwnV w6 wx.heap.size v6 L) := (by have h9 := Pr.OwnV.snoc hO6; rw [HL.out] at h9; exact h9); have V6 : Hid (Upd noBlock wx w6) := (V5.out.alloc _).grownOwn hg6 (fun i hi => ((O5.out.grow ((Upd.refl noBlock w5).alloc (.cells #[.int .i64 (px : Int)] 3))).lt i hi).1); clear hO6 hg6; obtain ⟨a6, q6, rfl⟩ := HSLI.out _ _ O6.out))
    all_goals
      go_wp2
      go_meet
      exact ⟨_, _, rfl, rfl, rfl, O6, V6⟩
  case rest =>
    obtain ⟨am, qm, rfl, rfl, rfl, HO6, HV6⟩ := hcut
    obtain ⟨wl, rfl⟩ : ∃ wl : World, wl = wc := ⟨_, rfl⟩
    obtain ⟨gm, csm, cm, hva, hbm, hcm⟩ := own_at0 HO6.out (by rw [HML.out]; exact HML2.out.2)
    injection hva with e1 e2 e3
    subst e1
    clear e2 e3
    have BM := Lib.hid hbm
    have HCM := Lib.hid hcm
    have UWL : Hid (Upd noBlock w wl) := UWX.out.trans HV6.out
    have BGL : Hid (wl.heap[g]? = some (.cells #[.int .i64 i0, .int .i64 t0, .bool ss, .bool cc, .int .i64 (b : Int), .slice (some ⟨ga, 0, none⟩) xs.length q1, .slice (some ⟨gp, 0, none⟩) ys.length q2, .int .i64 (pages : Int), .bool cl, .bool gd, .string s0, .string s1] 94 (0, 0))) := (HV6.out.block g (lt_of_block BGX.out) id).trans BGX.out
    have GL : Hid (VGo w A M ⟨0, V, rdN b 0 M⟩ wl) := ⟨HH.out.grow UWL.out, UWL.out.mono (fun _ _ e => e.elim)⟩
    have HWL : Hid (w.heap.size ≤ wl.heap.size) := UWL.out.size
    clear hbm hcm HO6 HKA HMC V0 V1 VA RA HAL HDR HDN HSLI HDX HPX HXP HV6 BGX BP UX UWX hsl HGR
    obtain ⟨iS, hS0, hS1, hS2, hS3⟩ := info_parts strInfoV
    go_wp2
    go_loopw [10, 12, 13, 14, 37] (fun s10 s12 s13 s14 s37 wr => ∃ (ii : Nat) (v12 v13 v14 : Value), ii ≤ ml ∧ s37 = .int .i64 (ii : Int) ∧ s12 = v12 ∧ s13 = v13 ∧ s14 = v14 ∧ Hid (OwnS wr wl.heap.size 9 s10 (othS F (oth lost (L.take ii)))) ∧ Hid (VGo w A M ⟨0, V, rdN b (oth lost (L.take ii)).length M⟩ wr) ∧ Hid (wr.heap[gm]? = some (.cells csm 3 (0, 0))) ∧ Hid (wr.heap[g]? = some (.cells #[.int .i64 i0, .int .i64 t0, .bool ss, .bool cc, .int .i64 (b : Int), .slice (some ⟨ga, 0, none⟩) xs.length q1, .slice (some ⟨gp, 0, none⟩) ys.length q2, .int .i64 (pages : Int), .bool cl, .bool gd, .string s0, .string s1] 94 (0, 0))) ∧ Hid (wl.heap.size ≤ wr.heap.size) ∧ Hid (∀ p : Nat, (p : Int) ∈ oth lost (L.take ii) → st p = 1)) (fun _ _ _ _ i _ => ml - (intOf i).toNat)
    case atStart => exact ⟨0, _, _, _, Nat.zero_le _, rfl, rfl, rfl, rfl, OwnS.nil _ _ _, GL, BM, BGL, Nat.le_refl _, fun p hp => absurd hp (List.not_mem_nil)⟩
    case round =>
      clear GL BM BGL
      obtain ⟨hml65, hml0⟩ := HML2.out
      obtain ⟨ii, v12, v13, v14, hii, rfl, rfl, rfl, rfl, HO, HG, BM, BGR, HLE, HST⟩ := hrel
      by_cases h1 : ii < ml
      · have di6 : decide ((ii : Int) < (ml : Int)) = true := decide_eq_true (by omega)
        have di7 : decide (ii < ml) = true := decide_eq_true h1
        have hil : ii < L.length := by rw [HML.out]; exact h1
        obtain ⟨p, hp⟩ := HLP.out ii hil
        have cm1 : wr.cell? ⟨gm, ii, none⟩ = some (.int .i64 (p : Int)) := by
          rw [cell_of BM.out, HCM.out ii hil]
          unfold vals
          rw [List.getElem?_map, List.getElem?_eq_getElem hil]
          rw [List.getD_eq_getElem?_getD, List.getElem?_eq_getElem hil] at hp
          have hp' : L[ii] = (p : Int) := hp
          rw [hp']; rfl
        have has := oth_succ lost L ii hil
        rw [hp] at has
        have i1 : (0 : Int) ≤ (ii : Int) := by omega
        have i2 : (ii : Int) < (ml : Int) := by omega
        by_cases hpl : p = lost
        · subst hpl
          have dq : ((p : Int) == (p : Int)) = true := beq_self_eq_true _
          rw [if_pos rfl] at has
          have HAS := Lib.hid has
          clear has
          go_wp2
          go_roundw
          case rel => exact ⟨ii + 1, _, _, _, by omega, by go_num, rfl, rfl, rfl, by rw [HAS.out]; exact HO, by rw [HAS.out]; exact HG, BM, BGR, HLE, by rw [HAS.out]; exact HST⟩
          case measure => simp [intOf]; omega
        · have dq : ((p : Int) == (lost : Int)) = false := beq_eq_false_iff_ne.2 (by omega)
          rw [if_neg (by omega)] at has
          have hom : (p : Int) ∈ oth lost L := oth_mem hil hp hpl
          have hmL : (p : Int) ∈ L := by rw [← hp]; exact getD_mem hil
          have hql : (oth lost (L.take ii)).length ≤ ii := by
            have h7 := oth_len lost (L.take ii)
            rw [List.length_take] at h7; omega
          have hrd := HRR.out (oth lost (L.take ii)).length wr p (by omega) HG.out hmL hpl
          have HAS := Lib.hid has
          obtain ⟨Q, hQ⟩ : ∃ Q, oth lost (L.take ii) = Q := ⟨_, rfl⟩
          rw [hQ] at hrd HO HG HST HAS hql
          have HQL := Lib.hid hql
          obtain ⟨sp, hsp⟩ : ∃ sp, st p = sp := ⟨_, rfl⟩
          obtain ⟨fp, hfp⟩ : ∃ fp, F p = fp := ⟨_, rfl⟩
          obtain ⟨tp, htp⟩ : ∃ tp, ft p = tp := ⟨_, rfl⟩
          rw [hsp, hfp, htp] at hrd
          have HRD : Hid (Calls Tryz.prog 45 #[.pointer (some ⟨A.v, 0, none⟩), .int .i64 (b : Int), .int .i64 (p : Int)] wr fun e w' => e = .returned (.tuple #[.agg #[.int .i64 sp, .string fp, .int .i64 tp], .int .i64 0]) ∧ Hid (VGo w A M ⟨0, V, rdN b (Q.length + 1) M⟩ w') ∧ Hid (w'.heap[gm]? = some (.cells csm 3 (0, 0))) ∧ Hid (w'.heap[g]? = some (.cells #[.int .i64 i0, .int .i64 t0, .bool ss, .bool cc, .int .i64 (b : Int), .slice (some ⟨ga, 0, none⟩) xs.length q1, .slice (some ⟨gp, 0, none⟩) ys.length q2, .int .i64 (pages : Int), .bool cl, .bool gd, .string s0, .string s1] 94 (0, 0))) ∧ Hid (∀ v xs, OwnS wr wl.heap.size 9 v xs → OwnS w' wl.heap.size 9 v xs) ∧ Hid (wl.heap.size ≤ w'.heap.size)) := hrd.mono fun e w' ⟨he, hv, hk⟩ => ⟨he, hv, hk.2.1 3 (by decide) _ _ BM.out, hk.2.1 94 (by decide) _ _ BGR.out, (fun v xs ho => ho.keepV (fun i a hi => hk.2.1 9 (by decide) i a hi)), Nat.le_trans HLE.out hk.1⟩
          have HSP := Lib.hid hsp
          have HFP := Lib.hid hfp
          have HOM := Lib.hid hom
          have c4 : wr.cell? ⟨g, 4, none⟩ = some (.int .i64 (b : Int)) := cell_of BGR.out 4
          have k0 : ∀ (W : World) (x y z : Value), (W.alloc (.cells #[x, y, z] 101)).cell? ⟨W.heap.size, 0, none⟩ = some x := fun W x y z => cell_of (heap_alloc_new W _) 0
          have k1 : ∀ (W : World) (x y z : Value), (W.alloc (.cells #[x, y, z] 101)).cell? ⟨W.heap.size, 1, none⟩ = some y := fun W x y z => cell_of (heap_alloc_new W _) 1
          clear hrd hsp hfp htp hom hmL has hQ hp hql
          go_upto_region 11 with (go_at_call 45; (with_reducible refine HRD.out.mono ?_); rintro e w7 ⟨rfl, G7, M7, B7, KO7, L7⟩; have O7 := Lib.hid (KO7.out _ _ HO.out))
          obtain ⟨wf, hwf⟩ : ∃ wf, wf = w7.alloc (.cells #[.int .i64 sp, .string fp, .int .i64 tp] 101) := ⟨_, rfl⟩
          have UF : Hid (Upd noBlock w7 wf) := by rw [hwf]; exact (Upd.refl _ _).alloc _
          have x0 : wf.cell? ⟨w7.heap.size, 0, none⟩ = some (.int .i64 sp) := by rw [hwf]; exact k0 _ _ _ _
          have x1 : wf.cell? ⟨w7.heap.size, 1, none⟩ = some (.string fp) := by rw [hwf]; exact k1 _ _ _ _
          rw [← hwf]
          clear hwf HRD BM HO HG HLE BGR cm1 c4 k0 k1
          by_cases hs1 : sp = 1
          · have dn : (sp != 1) = false := by rw [hs1]; rfl
            have UG : Hid (Upd noBlock w7 (wf.alloc (.cells #[.string fp] 9))) := UF.out.alloc _
            have O9 := Lib.hid (O7.out.grow UG.out)
            have G9 : Hid (VGo w A M ⟨0, V, rdN b (Q.length + 1) M⟩ (wf.alloc (.cells #[.string fp] 9))) := ⟨G7.out.v.grow UG.out, G7.out.u.trans (UG.out.mono (fun _ _ e => e.elim))⟩
            have M9 : Hid ((wf.alloc (.cells #[.string fp] 9)).heap[gm]? = some (.cells csm 3 (0, 0))) := (UG.out.block gm (lt_of_block M7.out) id).trans M7.out
            have B9 : Hid ((wf.alloc (.cells #[.string fp] 9)).heap[g]? = some (.cells #[.int .i64 i0, .int .i64 t0, .bool ss, .bool cc, .int .i64 (b : Int), .slice (some ⟨ga, 0, none⟩) xs.length q1, .slice (some ⟨gp, 0, none⟩) ys.length q2, .int .i64 (pages : Int), .bool cl, .bool gd, .string s0, .string s1] 94 (0, 0))) := (UG.out.block g (lt_of_block B7.out) id).trans B7.out
            have L9 : Hid (wl.heap.size ≤ wf.heap.size) := Nat.le_trans L7.out UF.out.size
            have HI := Lib.hid (Row1.one wf 9 (.string fp))
            have HOL := Lib.hid (othS_len F Q)
            go_wp2_with (first
              | (at_builtin; refine wpList_append_vals _ rfl (.tmp 58) (.tmp 61) _ rfl wl.heap.size 9 iS _ 16 Tryz.underlying24 hS0 hS1 hS2 hS3 rfl _ (othS F Q).length ((othS F Q).map Value.string) rfl O9.out (wf.heap.size + 1) (some ⟨wf.heap.size, 0, none⟩) 1 1 [.string fp] rfl HI.out (by intro u hu; simp at hu; subst hu; rfl) (by have := HQL.out; have := HOL.out; have := HML2.out; simp only [maxLen]; omega) (by have := HQL.out; have := HOL.out; have := HML2.out; omega) (by have := L9.out; simp; omega) ?_; intro v9 w9 hown9 hg9 _))
            have hA9 : Hid (VGo w A M ⟨0, V, rdN b (Q.length + 1) M⟩ w9) := ⟨G9.out.v.grownS O9.out hg9, G9.out.u.grownS O9.out HWL.out hg9⟩
            have hM9 := Lib.hid (cells_grownS M9.out (by decide) O9.out hg9)
            have hB9 := Lib.hid (cells_grownS B9.out (by decide) O9.out hg9)
            have hsz9 : wf.heap.size ≤ (wf.alloc (.cells #[.string fp] 9)).heap.size := by rw [World.size_alloc]; exact Nat.le_succ _
            have hL9 : Hid (wl.heap.size ≤ w9.heap.size) := Nat.le_trans (Nat.le_trans L9.out hsz9) hg9.size
            have hO9 : Hid (OwnS w9 wl.heap.size 9 v9 (othS F (Q ++ [(p : Int)]))) := by
              have h9 := OwnS.snoc hown9
              have e9 : othS F (Q ++ [(p : Int)]) = othS F Q ++ [fp] := by unfold othS; rw [List.map_append, ← HFP.out]; rfl
              rw [e9]; exact h9
            have hQn : (Q ++ [(p : Int)]).length = Q.length + 1 := by simp
            clear hown9 hg9 hsz9 O9 M9 B9 L9 UG UF x0 x1 HI
            go_roundw
            case rel => exact ⟨ii + 1, _, _, _, by omega, by go_num, rfl, rfl, rfl, by rw [HAS.out]; exact hO9, by rw [HAS.out, hQn]; exact hA9, hM9, hB9, hL9, by
              rw [HAS.out]
              intro x hx
              rcases List.mem_append.1 hx with hx | hx
              · exact HST.out x hx
              · have e9 : (x : Int) = (p : Int) := by simpa using hx
                have e8 : x = p := by omega
                rw [e8, HSP.out]; exact hs1⟩
            case measure => simp [intOf]; omega
          · have dn : (sp != 1) = true := bne_iff_ne.2 hs1
            go_wp2
            go_ret2
            refine .inr ⟨⟨p, HOM.out, by rw [HSP.out]; exact hs1⟩, rfl, Q.length + 1, ?_, G7.out.v.grow UF.out, G7.out.u.trans (UF.out.mono (fun _ _ e => e.elim))⟩
            have := HQL.out
            omega
      · obtain rfl : ii = ml := by omega
        have htk : L.take ii = L := List.take_of_length_le (Nat.le_of_eq HML.out)
        rw [htk] at HO HG HST
        have hfit : ∀ s ∈ othS F (oth lost L), s.size ≤ maxLen := fun s hs => by
          unfold othS at hs
          obtain ⟨x, -, rfl⟩ := List.mem_map.1 hs
          have h7 := HFS.out x.toNat
          simp only [maxLen]; omega
        obtain ⟨a7, c7, hv7, r7, hb7⟩ := HO.out.sl hfit
        subst hv7
        have R7 := Lib.hid r7
        have hn7 : (othS F (oth lost L)).length ≤ 65 := by
          rw [othS_len]
          have h7 := oth_len lost L
          have := HML2.out; have := HML.out
          omega
        obtain ⟨QS, hQS⟩ : ∃ QS, othS F (oth lost L) = QS := ⟨_, rfl⟩
        rw [hQS] at R7 hn7 ⊢
        obtain ⟨n7, hn⟩ : ∃ n7, QS.length = n7 := ⟨_, rfl⟩
        rw [hn] at R7 hn7 ⊢
        have c2 : wr.cell? ⟨A.v, 2, none⟩ = some (.int .i64 (A.room : Int)) := HG.out.v.cells.2.2.1
        have HXR : Hid (Calls Tryz.prog 77 #[.int .i64 (A.room : Int), .slice a7 n7 c7] wr fun e w' => e = .returned (.string (xorB A.room QS)) ∧ Hid (Upd noBlock wr w')) := Pr.xor_any (A.room : Int) a7 n7 c7 wr.heap.size QS wr R7.out (Nat.le_refl _) (by omega)
        have HQS := Lib.hid hQS
        clear hQS hn r7 hb7 hfit HO BM BGR HLE
        go_wp2_with (go_at_call 77; (with_reducible refine HXR.out.mono ?_); rintro e w9 ⟨rfl, U9⟩)
        go_ret2
        exact .inl ⟨HST.out, by rw [HQS.out]; rfl, HG.out.v.grow U9.out, HG.out.u.trans (U9.out.mono (fun _ _ e => e.elim))⟩
end
end Go.Proofs.YtoledgpcgjdjjaaGreatDoor

/- A volume's read as a plain thing; a block with no label; find where no block has one. -/
namespace Go.Proofs.YtoledgpcgjdjjaaGreatDoor
open F
open Go.RowKit Pm Cm
set_option linter.unusedVariables false
attribute [local irreducible] openL decUp empUp Lib.onesCount parT sealed beZ valN labelL

theorem results_cell3 {P : Program} {fn : Func} {p u v : Tmp} {ty : TypeId} (h : fn.results = #[.cell p ty, .tmp u, .tmp v]) (tmps : Array Value) (w : World) (g : Nat) (t : TypeId) (cs : Array Value) (fr : Nat × Nat) (d : TypeDesc) (b c : Value)
    (hp : tmps.getD p undef = .pointer (some ⟨g, 0, none⟩)) (hg : w.heap[g]? = some (.cells cs t fr))
    (hu : P.underlying ty = some d) (hd : (match d with | .struct _ | .array _ _ => true | _ => false) = true) (hi : (P.info? ty).map (·.size) = some cs.size) (hb : tmps.getD u undef = b) (hc : tmps.getD v undef = c) :
    (results fn tmps).run P w = .ok (.tuple #[.agg cs, b, c]) w := by
  have hp' : tmps[p]?.getD undef = .pointer (some ⟨g, 0, none⟩) := by simpa using hp
  have hb' : tmps[u]?.getD undef = b := by simpa using hb
  have hc' : tmps[v]?.getD undef = c := by simpa using hc
  simp [results, h, hp', hb', hc', asAddr, Result.andThen, run_loadVar_row w g t ty cs fr d hg hu hd hi]
theorem labInfo : (Tryz.prog.info? 89).map (·.size) = some 4 := by kernel_rfl
theorem found_ff {t k c : Nat} {b p : Int} (hG : GoodG b p c k t) : foundL t k c (pieceL (ffL (c * (k + (13 * t + 7) / 8))) (k + (13 * t + 7) / 8)) = ⟨0, [], 0⟩ := by
  obtain ⟨b1, b2, p1, p2, p4, c1, c2, k1, k2, t1, t2⟩ := hG
  unfold foundL
  rw [if_pos]
  refine (empUp_iff c).2 fun i hi => ?_
  have h2 : pieceL (ffL (c * (k + (13 * t + 7) / 8))) (k + (13 * t + 7) / 8) i = ffL (k + (13 * t + 7) / 8) := pieceL_rep 255 hi
  rw [h2, zer_ff]
  omega
section
variable {A : Vp} {M : Ch} {V : Vo} {w : World}
noncomputable def rdV (A : Vp) (M : Ch) (b p : Nat) : Value := (foundL A.t A.k A.c (pieceL (((M.bk b).pg p).show M.sz) (A.k + (13 * A.t + 7) / 8))).val
theorem vread_plain (b p n : Nat) (h : VolIn w A M V) (hoff : V.off = false) (hT : ∀ W, Upd (VOwn A M.nb) w W → Tab W) (hF : M.Fit n) (hn : n < 4611686018427387904) (hb : b < M.nb) (hp : p < M.np) (ho : M.off = false) (hq : M.most < 1 ∨ M.piece < 1) (hst : ((M.bk b).pg p).st ≤ 2) (hd : (((M.bk b).pg p).show M.sz).length = M.sz) :
    Calls Tryz.prog 45 #[.pointer (some ⟨A.v, 0, none⟩), .int .i64 (b : Int), .int .i64 (p : Int)] w fun e w' => e = .returned (.tuple #[rdV A M b p, .int .i64 0]) ∧ VGo w A M ⟨0, V, M.readM b⟩ w' := by
  have HP := fun (W : World) (hW : Upd noBlock w W) => pread_in A.q (M.nb : Int) (M.np : Int) A.c A.k A.t A.ch A.bb A.pb M A.cc (b : Int) (p : Int) b p n rfl rfl W h.good (h.grow hW).pgr (fun W2 h2 => hT W2 ((hW.mono (fun _ _ e => e.elim)).trans (VOwn.pgr h2))) hF hn hb hp h.sz ho hq hst hd
  unfold rdV
  generalize foundL A.t A.k A.c (pieceL (((M.bk b).pg p).show M.sz) (A.k + (13 * A.t + 7) / 8)) = X at *
  obtain ⟨s, l, x⟩ := X
  exact (vread_gen (M.readM b) b (p : Int) s x 0 ⟨l.toArray⟩ h hoff hb ⟨rfl, rfl, rfl⟩ HP).mono fun e w' ⟨he, hv, hu⟩ => ⟨he, hv, hu⟩
theorem rdV_blank (h : VolIn w A M V) (b p : Nat) (hp : ((M.bk b).pg p).st = 0) : rdV A M b p = .agg #[.int .i64 0, .string ⟨#[]⟩, .int .i64 0] := by
  unfold rdV
  have e : ((M.bk b).pg p).show M.sz = ffL (A.c * (A.k + (13 * A.t + 7) / 8)) := by
    unfold Pg.show; rw [if_pos hp, h.sz]; rfl
  rw [e, found_ff h.good]; rfl
set_option maxRecDepth 100000 in
set_option maxHeartbeats 3200000 in
theorem labelOn_none (b : Nat) (st ft : Int) (fp : ByteArray) (O : Out) (h : VolIn w A M V) (h1 : st ≠ 1) (h2 : st ≠ 2)
    (HR : ∀ W, Upd noBlock w W → Calls Tryz.prog 45 #[.pointer (some ⟨A.v, 0, none⟩), .int .i64 (b : Int), .int .i64 0] W fun r w' => r = .returned (.tuple #[.agg #[.int .i64 st, .string fp, .int .i64 ft], .int .i64 0]) ∧ VGo W A M O w') :
    Calls Tryz.prog 60 #[.pointer (some ⟨A.v, 0, none⟩), .int .i64 (b : Int)] w fun r w' => r = .returned (.tuple #[.agg #[.int .i64 0, .int .i64 0, .bool false, .bool false], .bool false, .int .i64 0]) ∧ VGo w A M O w' := by
  obtain ⟨r0, hr0⟩ : ∃ r0, r0 = w.heap.size := ⟨_, rfl⟩
  obtain ⟨wa, hwa⟩ : ∃ wa, wa = w.alloc (.cells #[.int .i64 0, .int .i64 0, .bool false, .bool false] 89) := ⟨_, rfl⟩
  have UA : Hid (Upd noBlock w wa) := by rw [hwa]; exact (Upd.refl _ _).alloc _
  have RA : Hid (wa.heap[r0]? = some (.cells #[.int .i64 0, .int .i64 0, .bool false, .bool false] 89 (0, 0))) := by rw [hwa, hr0]; exact heap_alloc_new w _
  have HR0 : Hid (w.heap.size ≤ r0) := Nat.le_of_eq hr0.symm
  have HRA : Hid (Calls Tryz.prog 45 #[.pointer (some ⟨A.v, 0, none⟩), .int .i64 (b : Int), .int .i64 0] wa fun r w' => r = .returned (.tuple #[.agg #[.int .i64 st, .string fp, .int .i64 ft], .int .i64 0]) ∧ Hid (VGo w A M O w') ∧ Hid (w'.heap[r0]? = some (.cells #[.int .i64 0, .int .i64 0, .bool false, .bool false] 89 (0, 0)))) :=
    (HR wa UA.out).mono fun e w' ⟨he, hv⟩ => ⟨he, ⟨hv.v, (UA.out.mono (fun _ _ e => e.elim)).trans hv.u⟩, (h.grow UA.out).keepT 89 (by decide) hv.u r0 _ RA.out⟩
  have d1 : (st == 2) = false := beq_eq_false_iff_ne.2 h2
  have d2 : (st != 1) = true := bne_iff_ne.2 h1
  clear h HR
  go_enter Tryz.func60, Tryz.ntmps60
  go_upto_region 1 with fail
  rw [← hwa, ← hr0]
  clear hwa hr0
  go_upto_region 2 with (go_at_call 45; (with_reducible refine HRA.out.mono ?_); rintro r w3 ⟨rfl, G3, R3⟩)
  obtain ⟨wf, hwf⟩ : ∃ wf, wf = w3.alloc (.cells #[.int .i64 st, .string fp, .int .i64 ft] 101) := ⟨_, rfl⟩
  obtain ⟨g0, hg0⟩ : ∃ g0, g0 = w3.heap.size := ⟨_, rfl⟩
  have x0 : wf.cell? ⟨g0, 0, none⟩ = some (.int .i64 st) := by rw [hwf, hg0]; exact cell_of (heap_alloc_new w3 _) 0
  have rf : wf.heap[r0]? = some (.cells #[.int .i64 0, .int .i64 0, .bool false, .bool false] 89 (0, 0)) := by rw [hwf]; exact block_alloc R3.out _
  have GF : Hid (VGo w A M O wf) := by rw [hwf]; exact ⟨G3.out.v.grow ((Upd.refl _ _).alloc _), G3.out.u.trans (((Upd.refl noBlock w3).alloc _).mono (fun _ _ e => e.elim))⟩
  rw [← hwf, ← hg0]
  clear hwf hg0
  have y0 := cell_of rf 0
  have y1 := cell_of rf 1
  have y2 := cell_of rf 2
  have y3 := cell_of rf 3
  have f0 := free_of rf 0
  have f1 := free_of rf 1
  have f2 := free_of rf 2
  have f3 := free_of rf 3
  have RF := Lib.hid rf
  have u4 : Upd (oneBlock r0) wf ((((wf.setCell ⟨r0, 0, none⟩ (.int .i64 0)).setCell ⟨r0, 1, none⟩ (.int .i64 0)).setCell ⟨r0, 2, none⟩ (.bool false)).setCell ⟨r0, 3, none⟩ (.bool false)) := ((((Upd.refl (oneBlock r0) wf).setCell (p := ⟨r0, 0, none⟩) (.inl rfl) _).setCell (p := ⟨r0, 1, none⟩) (.inl rfl) _).setCell (p := ⟨r0, 2, none⟩) (.inl rfl) _).setCell (p := ⟨r0, 3, none⟩) (.inl rfl) _
  have G4 : Hid (VGo w A M O ((((wf.setCell ⟨r0, 0, none⟩ (.int .i64 0)).setCell ⟨r0, 1, none⟩ (.int .i64 0)).setCell ⟨r0, 2, none⟩ (.bool false)).setCell ⟨r0, 3, none⟩ (.bool false))) := ⟨GF.out.v.alien rf (by decide) (by decide) u4, GF.out.u.past u4 HR0.out⟩
  have R4 : Hid (((((wf.setCell ⟨r0, 0, none⟩ (.int .i64 0)).setCell ⟨r0, 1, none⟩ (.int .i64 0)).setCell ⟨r0, 2, none⟩ (.bool false)).setCell ⟨r0, 3, none⟩ (.bool false)).heap[r0]? = some (.cells #[.int .i64 0, .int .i64 0, .bool false, .bool false] 89 (0, 0))) := block_set (block_set (block_set (block_set rf _) _) _) _
  clear rf u4
  go_wp2_with fail
  exact bodyPost_ret_by (results_cell3 rfl _ _ r0 _ _ _ _ _ _ rfl R4.out Tryz.underlying89 rfl labInfo rfl rfl) rfl ⟨rfl, G4.out⟩
set_option maxRecDepth 100000 in
set_option maxHeartbeats 3200000 in
theorem find_none (S : Nat → Ch) (h : VolIn w A M V) (h0 : S 0 = M) (hN : ∀ i, (S i).nb = M.nb)
    (HL : ∀ i W, i < M.nb → VGo w A M ⟨0, V, S i⟩ W → Calls Tryz.prog 60 #[.pointer (some ⟨A.v, 0, none⟩), .int .i64 (i : Int)] W fun r w' => r = .returned (.tuple #[.agg #[.int .i64 0, .int .i64 0, .bool false, .bool false], .bool false, .int .i64 0]) ∧ VGo w A M ⟨0, V, S (i + 1)⟩ w') :
    Calls Tryz.prog 36 #[.pointer (some ⟨A.v, 0, none⟩)] w fun r w' => r = .returned (.int .i64 0) ∧ VGo w A M ⟨0, V, S M.nb⟩ w' := by
  obtain ⟨c0, c1, c2, c3, c4, c5, c6⟩ := h.cells
  have p0 := cell_of h.pgr.pg 0
  have p0' : w.cell? ⟨A.q, 0, none⟩ = some (.int .i64 (M.nb : Int)) := p0
  have HB := h.nb1
  have GA : Hid (VGo w A M ⟨0, V, S 0⟩ w) := ⟨by rw [h0]; exact h, Upd.refl _ _⟩
  have HLL := Lib.hid HL
  have HBB := Lib.hid HB
  generalize M.nb = nb at *
  clear h h0 hN HL HB p0
  go_enter Tryz.func36, Tryz.ntmps36
  go_wp2
  go_loopw [3, 4, 5, 6, 7, 8, 9, 10, 21] (fun s3 s4 s5 s6 s7 s8 s9 s10 s21 wr => ∃ (ii : Nat) (v4 v5 v6 v7 v8 v9 v10 : Value), ii ≤ nb ∧ s21 = .int .i64 (ii : Int) ∧ s3 = .slice none 0 0 ∧ s4 = v4 ∧ s5 = v5 ∧ s6 = v6 ∧ s7 = v7 ∧ s8 = v8 ∧ s9 = v9 ∧ s10 = v10 ∧ Hid (VGo w A M ⟨0, V, S ii⟩ wr)) (fun _ _ _ _ _ _ _ _ i _ => nb - (intOf i).toNat)
  case atStart => exact ⟨0, _, _, _, _, _, _, _, Nat.zero_le _, rfl, rfl, rfl, rfl, rfl, rfl, rfl, rfl, rfl, GA⟩
  case round =>
    clear GA c0 c1 c2 c3 c4 c5 c6 p0'
    obtain ⟨hnb1, hnb64⟩ := HBB.out
    obtain ⟨ii, v4, v5, v6, v7, v8, v9, v10, hi, rfl, rfl, rfl, rfl, rfl, rfl, rfl, rfl, rfl, HG⟩ := hrel
    by_cases hlt : ii < nb
    · have di : decide ((ii : Int) < (nb : Int)) = true := decide_eq_true (by omega)
      have di2 : decide (ii < nb) = true := decide_eq_true hlt
      have HLI := Lib.hid (HLL.out ii wr hlt HG.out)
      go_wp2_with (go_at_call 60; (with_reducible refine HLI.out.mono ?_); rintro r w3 ⟨rfl, hv⟩; have G3 := Lib.hid hv; clear hv)
      go_roundw
      case rel => exact ⟨ii + 1, _, _, _, _, _, _, _, by omega, by go_num, rfl, rfl, rfl, rfl, rfl, rfl, rfl, rfl, ⟨G3.out.v.grow ((Upd.refl _ _).alloc _), G3.out.u.trans (((Upd.refl noBlock w3).alloc _).mono (fun _ _ e => e.elim))⟩⟩
      case measure => simp [intOf]; omega
    · obtain rfl : ii = nb := by omega
      have di : decide ((ii : Int) < (ii : Int)) = false := decide_eq_false (by omega)
      go_wp2
      go_loopw [12, 70] (fun s12 s70 wx => ∃ v12 : Value, s12 = v12 ∧ s70 = .int .i64 0 ∧ Hid (wx = wr)) (fun _ _ _ => 0)
      case atStart => exact ⟨_, rfl, rfl, rfl⟩
      case round =>
        obtain ⟨v12, rfl, rfl, HE⟩ := hrel
        go_wp2
        go_ret
        refine ⟨rfl, ?_⟩
        rw [HE.out]; exact HG.out
end
end Go.Proofs.YtoledgpcgjdjjaaGreatDoor

/- A volume over a base world; Attach on a chip where no block has a label. -/
namespace Go.Proofs.YtoledgpcgjdjjaaGreatDoor
open F
open Go.RowKit Pm Cm
set_option linter.unusedVariables false
attribute [local irreducible] openL decUp empUp Lib.onesCount parT sealed beZ valN labelL

structure VN (w : World) (A : Vp) (M : Ch) (V : Vo) (W : World) : Prop where
  i : VolIn W A M V
  u : Upd noBlock w W
  o : ∀ i, VOwn A M.nb i → w.heap.size ≤ i
theorem VN.go {w : World} {A : Vp} {M : Ch} {V : Vo} {W W' : World} {O : Out} (h : VN w A M V W) (hv : VGo W A M O W') (hn : O.M.nb = M.nb) : VN w A O.M O.V W' :=
  ⟨hv.v, upd_all h.u hv.u h.o, by rw [hn]; exact h.o⟩
theorem VN.quiet {w : World} {A : Vp} {M : Ch} {V : Vo} {W W' : World} (h : VN w A M V W) (hu : Upd noBlock W W') : VN w A M V W' := ⟨h.i.grow hu, h.u.trans hu, h.o⟩
theorem VN.tab {w : World} {A : Vp} {M : Ch} {V : Vo} {W : World} (h : VN w A M V W) (hT : Tab w) : ∀ W', Upd (VOwn A M.nb) W W' → Tab W' := fun W' hu => hT.upd (upd_all h.u hu h.o)
structure Blank (M : Ch) (nb np sz n : Nat) : Prop where
  nb : M.nb = nb
  np : M.np = np
  sz : M.sz = sz
  off : M.off = false
  most : M.most < 1
  left : M.left = 0
  worn : ∀ b, (M.bk b).worn = false
  pgs : ∀ b p, (M.bk b).pg p = pg0
  fit : M.Fit n
theorem Blank.new (nb np sz : Nat) : Blank (newCh nb np sz) nb np sz 0 :=
  ⟨rfl, rfl, rfl, rfl, by show (0 : Int) < 1; omega, rfl, fun _ => rfl, fun _ _ => rfl, newCh_fit nb np sz⟩
theorem readM_worn (M : Ch) (i b : Nat) : ((M.readM i).bk b).worn = (M.bk b).worn := by
  unfold Ch.readM Ch.setBk
  dsimp only
  by_cases e : b = i
  · rw [if_pos e, e]
  · rw [if_neg e]
theorem Blank.read {M : Ch} {nb np sz n : Nat} (h : Blank M nb np sz n) (i : Nat) : Blank (M.readM i) nb np sz (n + 1) :=
  ⟨h.nb, h.np, h.sz, h.off, h.most, h.left, fun b => (readM_worn M i b).trans (h.worn b), fun b p => (readM_pg M i b p).trans (h.pgs b p), h.fit.read i⟩
def rdB (M : Ch) : Nat → Ch
  | 0 => M
  | i + 1 => (rdB M i).readM i
theorem Blank.reads {M : Ch} {nb np sz n : Nat} (h : Blank M nb np sz n) : ∀ i, Blank (rdB M i) nb np sz (n + i)
  | 0 => h
  | i + 1 => (h.reads i).read i
def vo0 : Vo := ⟨0, false, fun _ => false, fun _ => none, 0⟩
theorem boolInfo : (Tryz.prog.info? 4).map (fun i => (i.zero, i.size, i.bytes)) = some (some (.bool false), 1, 1) := by kernel_rfl
set_option maxRecDepth 100000 in
set_option maxHeartbeats 3200000 in
theorem attach_blank (nb np c k t : Nat) (ch bb : Nat) (pb : Nat → Nat) (M : Ch) (n : Nat) (w0 w : World) (hG : GoodG (nb : Int) (np : Int) c k t) (hT : Tab w0) (hC : ChipIn w ch bb pb M) (hU : Upd noBlock w0 w) (hO : ∀ i, Own ch bb pb M.nb i → w0.heap.size ≤ i)
    (hB : Blank M nb np (rawN t k c) n) (hn : n < 4000000000000000000) (hr : 18 ≤ c * k - 7) :
    Calls Tryz.prog 10 #[.pointer (some ⟨ch, 0, none⟩), geoV (nb : Int) (np : Int) (c : Int) (k : Int) (t : Int)] w fun e w' => ∃ A : Vp, e = .returned (.tuple #[.pointer (some ⟨A.v, 0, none⟩), .int .i64 0]) ∧ VN w0 A (rdB M nb) vo0 w' ∧ A.ch = ch ∧ A.bb = bb ∧ A.pb = pb ∧ A.c = c ∧ A.k = k ∧ A.t = t := by
  have hp := rawN_pos hG
  have HPN := Lib.hid (fun W => pnew_good (nb : Int) (np : Int) c k t ch W hG)
  have HRW := Lib.hid (fun W => raw_good (nb : Int) (np : Int) c k t W hG)
  have hrn : c * (k + (13 * t + 7) / 8) = rawN t k c := rfl
  simp only [hrn] at HRW
  obtain ⟨m, hm⟩ : ∃ m, rawN t k c = m := ⟨_, rfl⟩
  have hck : (c : Int) * k - 7 = ((c * k - 7 : Nat) : Int) := by
    have h9 : ((c * k : Nat) : Int) = (c : Int) * k := Int.natCast_mul c k
    omega
  rw [hck] at HRW
  clear hrn hck
  obtain ⟨rm, hrm⟩ : ∃ rm, c * k - 7 = rm := ⟨_, rfl⟩
  rw [hrm] at HRW hr
  rw [hm] at HRW
  have hIS : Hid (∀ W, ChipIn W ch bb pb M → Calls Tryz.prog 35 #[.pointer (some ⟨ch, 0, none⟩), .int .i64 (nb : Int), .int .i64 (np : Int), .int .i64 (m : Int)] W fun e w' => e = .returned (.bool true) ∧ W = w') := fun W hW => by
    have h9 := is_any ch bb pb M (nb : Int) (np : Int) (m : Int) W hW
    rw [hB.nb, hB.np, hB.sz, hm] at h9
    simpa using h9
  have HC := Lib.hid hC
  have HU0 := Lib.hid hU
  have d18 : decide ((rm : Int) < 18) = false := decide_eq_false (by omega)
  have d18' : decide (rm < 18) = false := decide_eq_false (by omega)
  have hnb1 : nb ≤ 64 := by have := hG.b2; omega
  have hmk : ∀ W : World, (Instr.makeSlice 79 (.int .i64 (nb : Int)) (.int .i64 (nb : Int))).run Tryz.prog W = .ok (.slice (some ⟨W.heap.size, 0, none⟩) nb nb) (W.alloc (.cells (madeCells #[.bool false] nb) 4)) := fun W =>
    run_make_row' (P := Tryz.prog) 79 4 (.bool false) 1 Tryz.underlying79 boolInfo rfl .i64 .i64 nb (by omega) (by omega) W
  have hmm := @run_makeMap Tryz.prog
  have HBL := Lib.hid hB
  have HG := Lib.hid hG
  have HT := Lib.hid hT
  have HOO := Lib.hid hO
  have HM := Lib.hid hm
  have HRM := Lib.hid hrm
  have HN := Lib.hid hn
  have HNB := Lib.hid hnb1
  obtain ⟨wa, hwa⟩ : ∃ wa, wa = w.alloc (.cells #[.int .i64 (nb : Int), .int .i64 (np : Int), .int .i64 (c : Int), .int .i64 (k : Int), .int .i64 (t : Int)] 27) := ⟨_, rfl⟩
  obtain ⟨g, hg⟩ : ∃ g, g = w.heap.size := ⟨_, rfl⟩
  have UA : Hid (Upd noBlock w wa) := by rw [hwa]; exact (Upd.refl _ _).alloc _
  have hBG : wa.heap[g]? = some (.cells #[.int .i64 (nb : Int), .int .i64 (np : Int), .int .i64 (c : Int), .int .i64 (k : Int), .int .i64 (t : Int)] 27 (0, 0)) := by rw [hwa, hg]; exact heap_alloc_new w _
  have HGC : Hid (∀ W, Hid (Upd noBlock wa W) → W.cell? ⟨g, 0, none⟩ = some (.int .i64 (nb : Int)) ∧ W.cell? ⟨g, 1, none⟩ = some (.int .i64 (np : Int)) ∧ W.cell? ⟨g, 2, none⟩ = some (.int .i64 (c : Int)) ∧ W.cell? ⟨g, 3, none⟩ = some (.int .i64 (k : Int)) ∧ W.cell? ⟨g, 4, none⟩ = some (.int .i64 (t : Int))) := fun W hW => geo_cells ((hW.out.block _ (lt_of_block hBG) id).trans hBG)
  obtain ⟨z0, z1, z2, z3, z4⟩ := geo_cells hBG
  unfold geoV at *
  clear hBG hG hT hC hU hO hB hm hrm hn hp hr hnb1
  go_enter Tryz.func10, Tryz.ntmps10
  go_upto_region 1 with fail
  rw [← hwa, ← hg]
  clear hwa hg
  go_upto_region 6 with (first
    | (go_at_call 34; (with_reducible refine (HPN.out _).mono ?_); rintro e w2 ⟨q, cc, rfl, hp, hcd, hq, hcc, hu⟩; have P2 := Lib.hid hp; have D2 := Lib.hid hcd; have Q2 := Lib.hid hq; have C2 := Lib.hid hcc; have U2 : Hid (Upd noBlock wa w2) := hu; clear z0 z1 z2 z3 z4 hp hcd hq hcc hu; obtain ⟨z0, z1, z2, z3, z4⟩ := HGC.out _ U2)
    | (go_at_call 32; (with_reducible refine (HRW.out _).mono ?_); rintro e w3 ⟨rfl, hu⟩; have U3 : Hid (Upd noBlock w2 w3) := hu; have V3 : Hid (Upd noBlock wa w3) := U2.out.trans hu; clear z0 z1 z2 z3 z4 hu; obtain ⟨z0, z1, z2, z3, z4⟩ := HGC.out _ V3)
    | (go_at_call 35; (with_reducible refine (hIS.out _ (HC.out.grow (UA.out.trans V3.out))).mono ?_); rintro e w4 ⟨rfl, rfl⟩; have zm : (w3.alloc (.map #[] 0)).cell? ⟨g, 0, none⟩ = some (.int .i64 (nb : Int)) := (HGC.out _ (V3.out.alloc _)).1))
  obtain ⟨wm, hwm⟩ : ∃ wm, wm = w3.alloc (.map #[] 0) := ⟨_, rfl⟩
  obtain ⟨mb, hmb⟩ : ∃ mb, mb = w3.heap.size := ⟨_, rfl⟩
  have IMB : Hid (IM wm mb 0 (fun _ => none)) := by rw [hwm, hmb]; exact IM.made w3
  have UM : Hid (Upd noBlock w3 wm) := by rw [hwm]; exact (Upd.refl _ _).alloc _
  rw [← hwm, ← hmb]
  obtain ⟨ww, hww⟩ : ∃ ww, ww = wm.alloc (.cells (madeCells #[.bool false] nb) 4) := ⟨_, rfl⟩
  have hs1 : wm.heap.size = mb + 1 := by rw [hwm, hmb]; exact World.size_alloc _ _
  obtain ⟨wb, hwb⟩ : ∃ wb, wb = mb + 1 := ⟨_, rfl⟩
  have RWB : Hid (ww.rowIs wb 4 nb (fun _ => .bool false)) := by
    rw [hww, hwb, ← hs1]
    refine ⟨_, heap_alloc_new wm _, by rw [size_madeCells], fun j hj => ?_⟩
    simp [madeCells, hj, Nat.mod_one]
  have UW : Hid (Upd noBlock wm ww) := by rw [hww]; exact (Upd.refl _ _).alloc _
  rw [← hww, ← hwb]
  obtain ⟨wv, hwv⟩ : ∃ wv, wv = ww.alloc (.cells #[.pointer (some ⟨ch, 0, none⟩), .pointer (some ⟨q, 0, none⟩), .int .i64 (rm : Int), .map (some mb), .slice (some ⟨wb, 0, none⟩) nb nb, .int .i64 0, .bool false] 81) := ⟨_, rfl⟩
  have hs2 : ww.heap.size = wb + 1 := by rw [hww, hwb, ← hs1]; exact World.size_alloc _ _
  obtain ⟨v, hv⟩ : ∃ v, v = wb + 1 := ⟨_, rfl⟩
  have TV : Hid (wv.heap[v]? = some (.cells #[.pointer (some ⟨ch, 0, none⟩), .pointer (some ⟨q, 0, none⟩), .int .i64 (rm : Int), .map (some mb), .slice (some ⟨wb, 0, none⟩) nb nb, .int .i64 0, .bool false] 81 (0, 0))) := by rw [hwv, hv, ← hs2]; exact heap_alloc_new ww _
  have UV : Hid (Upd noBlock ww wv) := by rw [hwv]; exact (Upd.refl _ _).alloc _
  rw [← hwv, ← hv]
  have LV : Hid (ww.heap.size ≤ v) := by show ww.heap.size ≤ v; omega
  have LW : Hid (wm.heap.size ≤ wb) := by show wm.heap.size ≤ wb; omega
  have LM : Hid (w3.heap.size ≤ mb) := Nat.le_of_eq hmb.symm
  clear hwm hmb hww hwb hwv hv z0 z1 z2 z3 z4 zm
  have U3v : Hid (Upd noBlock w3 wv) := (UM.out.trans UW.out).trans UV.out
  have U2v : Hid (Upd noBlock w2 wv) := U3.out.trans U3v.out
  have Uwv : Hid (Upd noBlock w wv) := (UA.out.trans U2.out).trans U2v.out
  obtain ⟨A, hA⟩ : ∃ A : Vp, A = ⟨v, q, ch, bb, pb, cc, mb, wb, c, k, t⟩ := ⟨_, rfl⟩
  have hAR : A.room = rm := by rw [hA]; exact HRM.out
  have VI : VolIn wv A M vo0 := by
    subst hA
    have enb := HBL.out.nb
    have enp := HBL.out.np
    refine ⟨?_, ?_, ?_, ?_, ?_, ?_⟩
    · show wv.heap[v]? = _
      rw [TV.out, enb]
      unfold volTop
      rw [hAR]; rfl
    · exact IMB.out.upd (UW.out.trans UV.out) id
    · rw [enb]; exact row_upd RWB.out UV.out id
    · rw [enb, enp]
      exact ⟨P2.out.keep U2v.out, HC.out.grow Uwv.out, D2.out.keep U2v.out⟩
    · rw [enb, enp]; exact HG.out
    · rw [HBL.out.sz]
  have VNI : Hid (VN w0 A M vo0 wv) := by
    refine ⟨VI, HU0.out.trans Uwv.out, fun i hi => ?_⟩
    have s0 := HU0.out.size
    have s1 := UA.out.size
    have s2 := U2.out.size
    have s3 := U3.out.size
    have s4 := UM.out.size
    have s5 := UW.out.size
    have l1 := LV.out
    have l2 := LW.out
    have l3 := LM.out
    have l4 := Q2.out
    have l5 := C2.out
    subst hA
    rcases hi with e | e | e | e | e
    · have e' : i = v := e; omega
    · have e' : i = mb := e; omega
    · have e' : i = wb := e; omega
    · exact HOO.out i e
    · have e' : i = cc := e; omega
  have HFI : Hid (Calls Tryz.prog 36 #[.pointer (some ⟨v, 0, none⟩)] wv fun r w' => r = .returned (.int .i64 0) ∧ Hid (VGo wv A M ⟨0, vo0, rdB M M.nb⟩ w')) := by
    have hTT := VNI.out.tab HT.out
    have hAv : A.v = v := by rw [hA]
    rw [← hAv]
    refine find_none (fun i => rdB M i) VI rfl (fun i => ((HBL.out.reads i).nb).trans HBL.out.nb.symm) fun i W hi hW => ?_
    have hBi := HBL.out.reads i
    have hne : (rdB M i).nb = M.nb := hBi.nb.trans HBL.out.nb.symm
    have hi64 : i < 64 := by have := HBL.out.nb; have := HNB.out; omega
    have hnp4 : 0 < (rdB M i).np := by rw [hBi.np]; have := HG.out.p1; omega
    have hpg : ((rdB M i).bk i).pg 0 = pg0 := hBi.pgs i 0
    have hval := rdV_blank hW.v i 0 (by show (((rdB M i).bk i).pg 0).st = 0; rw [hpg]; rfl)
    refine (labelOn_none (M := rdB M i) i 0 0 ⟨#[]⟩ ⟨0, vo0, (rdB M i).readM i⟩ hW.v (by omega) (by omega) fun W2 hW2 => ?_).mono fun e w' ⟨he, hv⟩ => ⟨he, hv.v, hW.u.trans (VOwn.same hne hv.u)⟩
    have h9 := vread_plain (M := rdB M i) (V := vo0) i 0 (n + i) (hW.v.grow hW2) rfl (fun W3 h3 => hTT W3 ((hW.u.trans (hW2.mono (fun _ _ e => e.elim))).trans (VOwn.same hne h3))) hBi.fit (by have := HN.out; omega) (by rw [hne]; exact hi) hnp4 hBi.off (.inl hBi.most) (by rw [hpg]; exact Nat.zero_le _) (by rw [hpg]; unfold Pg.show; rw [if_pos (show pg0.st = 0 from rfl)]; exact List.length_replicate ..)
    have hval' : rdV A (rdB M i) i 0 = .agg #[.int .i64 0, .string ⟨#[]⟩, .int .i64 0] := hval
    rw [hval'] at h9
    exact h9
  have hMN : M.nb = nb := HBL.out.nb
  rw [hMN] at HFI
  have hFin : Hid (∀ w', VGo wv A M ⟨0, vo0, rdB M nb⟩ w' → ∃ A : Vp, (Value.tuple #[.pointer (some ⟨v, 0, none⟩), .int .i64 0]) = .tuple #[.pointer (some ⟨A.v, 0, none⟩), .int .i64 0] ∧ VN w0 A (rdB M nb) vo0 w' ∧ A.ch = ch ∧ A.bb = bb ∧ A.pb = pb ∧ A.c = c ∧ A.k = k ∧ A.t = t) := fun w' hw => ⟨A, by rw [hA], VNI.out.go hw (((HBL.out.reads nb).nb).trans hMN.symm), by rw [hA], by rw [hA], by rw [hA], by rw [hA], by rw [hA], by rw [hA]⟩
  clear hA hAR VI
  go_wp2_with (go_at_call 36; (with_reducible refine HFI.out.mono ?_); rintro r w8 ⟨rfl, G8⟩)
  go_ret2
  obtain ⟨A', e1, e2⟩ := hFin.out _ G8.out
  exact ⟨A', congrArg Ending.returned e1, e2⟩
end Go.Proofs.YtoledgpcgjdjjaaGreatDoor
