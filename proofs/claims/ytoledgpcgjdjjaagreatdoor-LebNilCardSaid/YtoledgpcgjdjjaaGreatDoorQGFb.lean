import Derived.Test.YtoledgpcgjdjjaaGreatDoorQFa
import Derived.Test.YtoledgpcgjdjjaaGreatDoorQGNw
import Derived.Test.YtoledgpcgjdjjaaGreatDoorQGJa
import Derived.Test.YtoledgpcgjdjjaaGreatDoorQSt
import Derived.Test.YtoledgpcgjdjjaaGreatDoorQShelf
import Derived.Lib.OthersKept
import Derived.Test.YtoledgpcgjdjjaaGreatDoorQBu
import Derived.Test.YtoledgpcgjdjjaaGreatDoorQTr
import Derived.Handy
import Derived.Deep.RegionHeld3
import Derived.Test.YtoledgpcgjdjjaaGreatDoorQGNi
/- A pager in memory; builders of the call's own. -/
namespace Go.Proofs.YtoledgpcgjdjjaaGreatDoor
open F
open Go.RowKit Pm Cm
set_option linter.unusedVariables false

theorem CodeP.by {w w' : World} {c t : Nat} {k : Int} (h : CodeP w c t k) {R : Nat → Prop} (hu : Upd R w w') (hc : ¬ R c) (hi : ∀ g x z, w.heap[g]? = some (.cells x 3 z) → ¬ R g) : CodeP w' c t k := by
  have hrow : ∀ {g n : Nat} {f : Nat → Value}, w.rowIs g 3 n f → w'.rowIs g 3 n f := fun {g n f} hr => by
    obtain ⟨x, hx, _⟩ := id hr
    exact hr.of_block (hu.block _ hr.lt (hi _ _ _ hx))
  rcases h with ⟨V0, hV, h | ⟨pb, lb, hb, hp, hl⟩⟩ | ⟨n, pb, lb, hb, hp, hl⟩
  · exact .inl ⟨V0, hV, .inl (FB.upd h hu hc)⟩
  · exact .inl ⟨V0, hV, .inr ⟨pb, lb, FB.upd hb hu hc, hrow hp, hrow hl⟩⟩
  · exact .inr ⟨n, pb, lb, FB.upd hb hu hc, hrow hp, hrow hl⟩
theorem CodeP.block {w : World} {c t : Nat} {k : Int} (h : CodeP w c t k) : ∃ x, w.heap[c]? = some (.cells x 177 (0, 0)) := by
  rcases h with ⟨V0, hV, h⟩ | ⟨n, h⟩
  · exact Fld.block h
  · exact Fld.block (Ready.fld h)
theorem code_own {w : World} {c bb : Nat} {pb : Nat → Nat} {M : Ch} {cc t : Nat} {k : Int} (h : ChipIn w c bb pb M) (hc : CodeP w cc t k) : ¬ Own c bb pb M.nb cc := by
  obtain ⟨x, hx⟩ := hc.block
  rintro (rfl | rfl | ⟨b, hb, rfl⟩)
  · exact apart hx h.top (by decide) rfl
  · obtain ⟨y, hy⟩ := row_block h.blks
    exact apart hx hy (by decide) rfl
  · obtain ⟨y, hy⟩ := (h.pgs b hb).block
    exact apart hx hy (by decide) rfl
theorem int_own {w : World} {c bb : Nat} {pb : Nat → Nat} {M : Ch} (h : ChipIn w c bb pb M) (g : Nat) (x : Array Value) (z : Nat × Nat) (hg : w.heap[g]? = some (.cells x 3 z)) : ¬ Own c bb pb M.nb g := by
  rintro (rfl | rfl | ⟨b, hb, rfl⟩)
  · exact apart hg h.top (by decide) rfl
  · obtain ⟨y, hy⟩ := row_block h.blks
    exact apart hg hy (by decide) rfl
  · obtain ⟨y, hy⟩ := (h.pgs b hb).block
    exact apart hg hy (by decide) rfl
theorem CodeP.chip {w w' : World} {c bb : Nat} {pb : Nat → Nat} {M : Ch} {cc t : Nat} {k : Int} (hc : CodeP w cc t k) (h : ChipIn w c bb pb M) (hu : Upd (Own c bb pb M.nb) w w') : CodeP w' cc t k :=
  hc.by hu (code_own h hc) (fun g x z hg => int_own h g x z hg)
theorem ChipIn.code {w w' : World} {c bb : Nat} {pb : Nat → Nat} {M : Ch} {cc t : Nat} {k : Int} (h : ChipIn w c bb pb M) (hc : CodeP w cc t k) (hu : Upd (oneBlock cc) w w') : ChipIn w' c bb pb M :=
  h.upd hu (fun i hi e => code_own h hc (by have e' : i = cc := e; rw [← e']; exact hi)) (fun g x z hg e => by
    obtain ⟨y, hy⟩ := hc.block
    exact apart hg hy (by decide) e)

def PgrB (w : World) (q : Nat) (b p c k t : Int) (ch cc : Nat) : Prop :=
  w.heap[q]? = some (.cells #[.int .i64 b, .int .i64 p, .int .i64 c, .int .i64 k, .int .i64 t, .pointer (some ⟨ch, 0, none⟩), .pointer (some ⟨cc, 0, none⟩)] 118 (0, 0))
section
variable {w : World} {q : Nat} {b p c k t : Int} {ch cc : Nat}
theorem PgrB.c0 (h : PgrB w q b p c k t ch cc) : w.cell? ⟨q, 0, none⟩ = some (.int .i64 b) := cell_of h 0
theorem PgrB.c1 (h : PgrB w q b p c k t ch cc) : w.cell? ⟨q, 1, none⟩ = some (.int .i64 p) := cell_of h 1
theorem PgrB.c2 (h : PgrB w q b p c k t ch cc) : w.cell? ⟨q, 2, none⟩ = some (.int .i64 c) := cell_of h 2
theorem PgrB.c3 (h : PgrB w q b p c k t ch cc) : w.cell? ⟨q, 3, none⟩ = some (.int .i64 k) := cell_of h 3
theorem PgrB.c4 (h : PgrB w q b p c k t ch cc) : w.cell? ⟨q, 4, none⟩ = some (.int .i64 t) := cell_of h 4
theorem PgrB.c5 (h : PgrB w q b p c k t ch cc) : w.cell? ⟨q, 5, none⟩ = some (.pointer (some ⟨ch, 0, none⟩)) := cell_of h 5
theorem PgrB.c6 (h : PgrB w q b p c k t ch cc) : w.cell? ⟨q, 6, none⟩ = some (.pointer (some ⟨cc, 0, none⟩)) := cell_of h 6
theorem PgrB.lt (h : PgrB w q b p c k t ch cc) : q < w.heap.size := lt_of_block h
theorem PgrB.upd (h : PgrB w q b p c k t ch cc) {w' : World} {R : Nat → Prop} (hu : Upd R w w') (hR : ¬ R q) : PgrB w' q b p c k t ch cc := (hu.block q (lt_of_block h) hR).trans h
theorem PgrB.keep (h : PgrB w q b p c k t ch cc) {w' : World} (hu : Upd noBlock w w') : PgrB w' q b p c k t ch cc := h.upd hu id
end
structure PgrIn (w : World) (q : Nat) (b p : Int) (c k t : Nat) (ch bb : Nat) (pb : Nat → Nat) (M : Ch) (cc : Nat) : Prop where
  pg : PgrB w q b p (c : Int) (k : Int) (t : Int) ch cc
  chip : ChipIn w ch bb pb M
  code : CodeP w cc t (k : Int)
def POwn (ch bb : Nat) (pb : Nat → Nat) (nb cc : Nat) : Nat → Prop := fun i => Own ch bb pb nb i ∨ i = cc
section
variable {w w' : World} {q : Nat} {b p : Int} {c k t : Nat} {ch bb : Nat} {pb : Nat → Nat} {M M' : Ch} {cc : Nat}
theorem PgrIn.q_cc (h : PgrIn w q b p c k t ch bb pb M cc) : ¬ q = cc := by
  obtain ⟨x, hx⟩ := h.code.block
  exact apart h.pg hx (by decide)
theorem PgrIn.q_own (h : PgrIn w q b p c k t ch bb pb M cc) : ¬ Own ch bb pb M.nb q := by
  rintro (rfl | rfl | ⟨b, hb, rfl⟩)
  · exact apart h.pg h.chip.top (by decide) rfl
  · obtain ⟨y, hy⟩ := row_block h.chip.blks
    exact apart h.pg hy (by decide) rfl
  · obtain ⟨y, hy⟩ := (h.chip.pgs b hb).block
    exact apart h.pg hy (by decide) rfl
theorem PgrIn.keep (h : PgrIn w q b p c k t ch bb pb M cc) (hu : Upd noBlock w w') : PgrIn w' q b p c k t ch bb pb M cc := ⟨h.pg.keep hu, h.chip.grow hu, h.code.keep hu⟩
theorem PgrIn.coded (h : PgrIn w q b p c k t ch bb pb M cc) (hu : Upd (oneBlock cc) w w') (hm : CodeP w' cc t (k : Int)) : PgrIn w' q b p c k t ch bb pb M cc :=
  ⟨h.pg.upd hu (fun e => h.q_cc e), h.chip.code h.code hu, hm⟩
theorem PgrIn.chipped (h : PgrIn w q b p c k t ch bb pb M cc) (hu : Upd (Own ch bb pb M.nb) w w') (hm : ChipIn w' ch bb pb M') : PgrIn w' q b p c k t ch bb pb M' cc :=
  ⟨h.pg.upd hu h.q_own, hm, h.code.chip h.chip hu⟩
theorem POwn.code {a : World} (hu : Upd (oneBlock cc) a w) : Upd (POwn ch bb pb M.nb cc) a w := hu.mono fun _ _ e => .inr e
theorem POwn.chip {a : World} (hu : Upd (Own ch bb pb M.nb) a w) : Upd (POwn ch bb pb M.nb cc) a w := hu.mono fun _ _ e => .inl e
theorem POwn.none {a : World} {R : Nat → Prop} (hu : Upd noBlock a w) : Upd R a w := hu.mono fun _ _ e => e.elim
end

/-! builders of the call's own -/
theorem own_rowF_keep {w w' : World} {B : Nat} {e : TypeId} {size : Nat} {v : Value} {n : Nat} {xs : List Value} (h : w.ownsRowF B e size v n xs) {R : Nat → Prop} (hu : Upd R w w') (hR : ∀ i, B ≤ i → ¬ R i) : w'.ownsRowF B e size v n xs := by
  obtain ⟨hl, h⟩ := h
  refine ⟨hl, ?_⟩
  rcases h with h | ⟨g, cap, cur, fz, hv, hb, hg, hr⟩
  · exact .inl h
  · exact .inr ⟨g, cap, cur, fz, hv, hb, (hu.block g (lt_of_block hg) (hR g hb)).trans hg, hr⟩
theorem builderAt_keep {T e : TypeId} {B b : Nat} {p : Value} {bs : List Value} {w w' : World} (h : Lib.BuilderAtF T e B b p bs w) {R : Nat → Prop} (hu : Upd R w w') (hR : ∀ i, B ≤ i → ¬ R i) : Lib.BuilderAtF T e B b p bs w' := by
  obtain ⟨hB, v, hb, ho, hn⟩ := h
  exact ⟨hB, v, (hu.block b (lt_of_block hb) (hR b hB)).trans hb, own_rowF_keep ho hu hR, hn⟩
def Bld (w : World) (B b : Nat) (l : List UInt8) : Prop := Lib.IsBuilderF 217 5 B b (Lib.byteCells l) w
theorem Bld.keep {w w' : World} {B b : Nat} {l : List UInt8} (h : Bld w B b l) {R : Nat → Prop} (hu : Upd R w w') (hR : ∀ i, B ≤ i → ¬ R i) : Bld w' B b l := by
  rcases h with h | h
  · exact .inl (builderAt_keep h hu hR)
  · exact .inr (builderAt_keep h hu hR)
theorem Bld.new (w : World) : Bld (w.alloc (.cells #[.pointer none, .slice none 0 0] 217)) w.heap.size w.heap.size [] :=
  .inl ⟨Nat.le_refl _, .slice none 0 0, heap_alloc_new w _, ⟨rfl, .inl ⟨rfl, rfl⟩⟩, by simp [Value.ownBlock]⟩
theorem byteCells_len (l : List UInt8) : (Lib.byteCells l).length = l.length := by simp [Lib.byteCells]
theorem byteCells_str (l : List UInt8) (s : ByteArray) : Lib.byteCells l ++ Lib.strCells s = Lib.byteCells (l ++ s.data.toList) := by
  simp [Lib.byteCells, Lib.strCells]
def BR (B b : Nat) (w : World) (i : Nat) : Prop := i = b ∨ (B ≤ i ∧ ∃ x z, w.heap[i]? = some (.cells x 5 z))
theorem bupd {B b : Nat} {w w' : World} (h : Below B w w') (ho : Lib.OthersKept 5 (some b) w w') : Upd (BR B b w) w w' := by
  refine ⟨h.os, h.tape, h.output, h.size, fun i hi hR => ?_⟩
  by_cases hB : B ≤ i
  · obtain ⟨o, ho'⟩ : ∃ o, w.heap[i]? = some o := ⟨_, Array.getElem?_eq_getElem hi⟩
    rw [ho']
    exact ho i o ho' (fun e => hR (.inl (Option.some.inj e))) (fun c fz e => hR (.inr ⟨hB, c, fz, by rw [ho', e]⟩))
  · exact h.block i (by omega)
theorem bwrite_any (B b : Nat) (l : List UInt8) (s : ByteArray) (w : World) (h : Bld w B b l) (hl : l.length + s.size ≤ 140737488355328) (hB : B ≤ w.heap.size) :
    Calls Tryz.prog 124 #[.pointer (some ⟨b, 0, none⟩), .string s] w fun e w' => e = .returned (.tuple #[.int .i64 s.size, .nilIface]) ∧ Bld w' B b (l ++ s.data.toList) ∧ Upd (BR B b w) w w' :=
  (bstr_any B b (Lib.byteCells l) s w h (by rw [byteCells_len]; exact hl) hB).mono fun e w' ⟨h1, h2, h3, h4⟩ => ⟨h1, .inr (by rw [← byteCells_str]; exact h2), bupd h3 h4⟩
theorem bstring_any (B b : Nat) (l : List UInt8) (w : World) (h : Bld w B b l) (hB : B ≤ w.heap.size) :
    Calls Tryz.prog 125 #[.pointer (some ⟨b, 0, none⟩)] w fun e w' => e = .returned (.string ⟨l.toArray⟩) ∧ Bld w' B b l ∧ Upd (BR B b w) w w' :=
  (Tryz.Builder_String_any_k B b l w h hB).mono fun e w' ⟨h1, h2, h3, h4⟩ => ⟨h1, h2, bupd h3 h4⟩
theorem Bld.block {w : World} {B b : Nat} {l : List UInt8} (h : Bld w B b l) : ∃ x, w.heap[b]? = some (.cells x 217 (0, 0)) := by
  rcases h with ⟨_, v, hb, _⟩ | ⟨_, v, hb, _⟩ <;> exact ⟨_, hb⟩
theorem Bld.lt {w : World} {B b : Nat} {l : List UInt8} (h : Bld w B b l) : b < w.heap.size := by
  obtain ⟨x, hx⟩ := h.block; exact lt_of_block hx
theorem CodeP.bld {w w' : World} {B b : Nat} {l : List UInt8} {cc t : Nat} {k : Int} (h : CodeP w cc t k) (hl : Bld w B b l) (hu : Upd (BR B b w) w w') : CodeP w' cc t k := by
  obtain ⟨x, hx⟩ := h.block
  obtain ⟨y, hy⟩ := hl.block
  refine h.by hu ?_ fun g a z hg => ?_
  · rintro (e | ⟨_, a, z, hz⟩)
    · exact apart hx hy (by decide) e
    · exact apart hx hz (by decide) rfl
  · rintro (e | ⟨_, a', z', hz⟩)
    · exact apart hg hy (by decide) e
    · exact apart hg hz (by decide) rfl
structure PB (w : World) (cc t : Nat) (k : Int) (B : Nat) (l : List UInt8) (W : World) : Prop where
  code : CodeP W cc t k
  bl : Bld W B B l
  u : Upd (oneBlock cc) w W
  B1 : w.heap.size ≤ B
  c1 : cc < w.heap.size
section
variable {w W W' : World} {cc t B : Nat} {k : Int} {l l' : List UInt8}
theorem PB.quiet (h : PB w cc t k B l W) (hu : Upd noBlock W W') : PB w cc t k B l W' := ⟨h.code.keep hu, h.bl.keep hu (fun _ _ h => h), h.u.trans (POwn.none hu), h.B1, h.c1⟩
theorem PB.drew (h : PB w cc t k B l W) : PB w cc t k B l W.drew := h.quiet ((Upd.refl _ _).drew)
theorem PB.coded (h : PB w cc t k B l W) (hm : Made W' cc t k) (hu : Upd (oneBlock cc) W W') : PB w cc t k B l W' := by
  have h1 := h.B1
  have h2 := h.c1
  exact ⟨.inr hm, h.bl.keep hu (fun i hi e => by have e' : i = cc := e; omega), h.u.trans hu, h1, h2⟩
theorem PB.wrote (h : PB w cc t k B l W) (hl : Bld W' B B l') (hu : Upd (BR B B W) W W') : PB w cc t k B l' W' := by
  have h1 := h.B1
  refine ⟨h.code.bld h.bl hu, hl, h.u.step hu fun i hi hR => ?_, h1, h.c1⟩
  rcases hR with e | ⟨e, _⟩
  · omega
  · omega
theorem PB.lt (h : PB w cc t k B l W) : B ≤ W.heap.size := Nat.le_of_lt h.bl.lt
theorem PB.start (h : CodeP w cc t k) : PB w cc t k w.heap.size [] (w.alloc (.cells #[.pointer none, .slice none 0 0] 217)) :=
  ⟨h.keep ((Upd.refl _ _).alloc _), Bld.new w, (Upd.refl _ _).alloc _, Nat.le_refl _, h.lt⟩
end
end Go.Proofs.YtoledgpcgjdjjaaGreatDoor

/- zeroBits, isEmpty. -/
namespace Go.Proofs.YtoledgpcgjdjjaaGreatDoor
open F
open Go.RowKit Pm Cm
set_option linter.unusedVariables false
attribute [local irreducible] Lib.onesCount

theorem getD_byteF (q : ByteArray) (j : Nat) (h : j < q.size) : q[j] = q.data.toList.getD j 0 := by
  have h' : j < q.data.toList.length := h
  rw [List.getD_eq_getElem?_getD, List.getElem?_eq_getElem h']; rfl
theorem xor255 : ∀ n : Fin 256, 255 ^^^ n.val = 255 - n.val := by decide +kernel
theorem not_u8 (a : UInt8) : bits .xor .u8 IntKind.u8.max (a.toNat : Int) = ((255 - a.toNat : Nat) : Int) := by
  have h := u8_xor_n 255 a.toNat (by omega) a.toNat_lt
  rw [show 255 ^^^ a.toNat = 255 - a.toNat from xor255 ⟨a.toNat, a.toNat_lt⟩] at h
  exact h
set_option maxRecDepth 100000 in
theorem zero_any (s : ByteArray) (w : World) (hs : s.size ≤ 4096) :
    Calls Tryz.prog 122 #[.string s] w fun e w' => e = .returned (.int .i64 ((zer s.data.toList : Nat) : Int)) ∧ w = w' := by
  have HON := Lib.hid (fun x w h0 h1 => Tryz.bits_OnesCount8 x w h0 h1)
  have HL : Hid (s.data.toList.length = s.size) := rfl
  have HZ := Lib.hid (fun i h => zer_take s.data.toList i h)
  have HZL := Lib.hid (fun i => zer_le (s.data.toList.take i))
  have HG : Hid (∀ i (h : i < s.size), s[i] = s.data.toList.getD i 0) := fun i h => getD_byteF s i h
  have HALL : Hid (s.data.toList.take s.size = s.data.toList) := List.take_of_length_le (Nat.le_of_eq rfl)
  rw [← HALL.out]
  go_enter Tryz.func122, Tryz.ntmps122
  go_wp2
  go_loop [3, 7] (fun n i => ∃ k : Nat, k ≤ s.size ∧ i = .int .i64 (k : Int) ∧ n = .int .i64 ((zer (s.data.toList.take k) : Nat) : Int)) (fun _ i => s.size - (intOf i).toNat)
  case atStart => exact ⟨0, Nat.zero_le _, rfl, rfl⟩
  case round =>
    obtain ⟨k, hk, rfl, rfl⟩ := hrel
    by_cases h0 : k < s.size
    · have hz := HZ.out k (by rw [HL.out]; exact h0)
      have hzl := HZL.out (k + 1)
      rw [List.length_take] at hzl
      have hb := HG.out k h0
      rw [← hb] at hz
      have h8 : Lib.onesCount (255 - s[k].toNat) ≤ 8 := ones8' _ (by omega)
      have HON1 := Lib.hid (fun w => HON.out ((255 - s[k].toNat : Nat) : Int) w (by omega) (by omega))
      rw [Int.toNat_natCast] at HON1
      obtain ⟨oc, hoc⟩ : ∃ oc, Lib.onesCount (255 - s[k].toNat) = oc := ⟨_, rfl⟩
      rw [hoc] at HON1 h8 hz
      clear hoc
      obtain ⟨y, hy⟩ : ∃ y, zer (s.data.toList.take k) = y := ⟨_, rfl⟩
      rw [hy] at hz ⊢
      have HW := Lib.hid hz
      have hn8 := not_u8 s[k]
      have hy2 : y + oc ≤ 40000 := by omega
      clear hz hzl hb hy
      go_wp2_with (go_at_call 167; (with_reducible refine (HON1.out _).mono ?_); rintro e w1 ⟨rfl, rfl⟩)
      go_round
      case rel => exact ⟨k + 1, by omega, by go_num, by rw [HW.out]; go_num⟩
      case measure => simp [intOf]; omega
    · obtain rfl : k = s.size := by omega
      go_wp2
      go_ret
      exact ⟨rfl, rfl⟩
theorem quiet_eqF {P : Program} {f : FuncId} {args : Array Value} {w : World} {n : Nat} {v : Value}
    (h : Calls P f args (w.drewN n) fun e w' => e = .returned v ∧ w.drewN n = w') : Calls P f args (w.drewN n) fun e w'' => e = .returned v ∧ ∃ m, w'' = w.drewN m :=
  h.mono fun _ _ ⟨he, hm⟩ => ⟨he, n, hm.symm⟩
set_option maxRecDepth 100000 in
set_option maxHeartbeats 1600000 in
theorem empty_any (q : Nat) (b p : Int) (c k t : Nat) (ch cc g : Nat) (f : Nat → ByteArray) (w : World) (h : PgrB w q b p (c : Int) (k : Int) (t : Int) ch cc) (hT : TR w g c f) (hc : c ≤ 4) (ht : t ≤ 8) (hf : ∀ j, j < c → (f j).size ≤ 4096) :
    Calls Tryz.prog 100 #[.pointer (some ⟨q, 0, none⟩), .slice (some ⟨g, 0, none⟩) c c] w fun e w' => e = .returned (.bool (empUp t (fun j => (f j).data.toList) c)) ∧ Upd noBlock w w' := by
  have HP : Hid (∀ W, Upd noBlock w W → W.cell? ⟨q, 4, none⟩ = some (.int .i64 (t : Int))) := fun W hW => (h.keep hW).c4
  have HC : Hid (∀ W j, Upd noBlock w W → j < c → W.cell? ⟨g, j, none⟩ = some (.string (f j))) := fun W j hW hj => (hT.grow hW).cell j hj
  have HZ := Lib.hid (fun j W hj => zero_any (f j) W (hf j hj))
  have HZL := Lib.hid (fun j (hj : j < c) => Nat.le_trans (zer_le (f j).data.toList) (Nat.mul_le_mul_left 8 (hf j hj)))
  have HST : Hid (∀ i, empUp t (fun j => (f j).data.toList) (i + 1) = (empUp t (fun j => (f j).data.toList) i && decide (zer (f i).data.toList ≤ t))) := fun i => rfl
  have HSO : Hid (∀ i, i ≤ c → empUp t (fun j => (f j).data.toList) i = false → empUp t (fun j => (f j).data.toList) c = false) := fun i hi h => empUp_stop h c hi
  have HE0 : Hid (empUp t (fun j => (f j).data.toList) 0 = true) := rfl
  obtain ⟨E, hE⟩ : ∃ E, empUp t (fun j => (f j).data.toList) = E := ⟨_, rfl⟩
  rw [hE] at HST HSO HE0 ⊢
  clear h hT hf hE
  go_enter Tryz.func100, Tryz.ntmps100
  go_wp2
  go_loopw [9] (fun i wr => ∃ j : Nat, j ≤ c ∧ i = .int .i64 (j : Int) ∧ Hid (E j = true) ∧ Hid (Upd noBlock w wr)) (fun i _ => c - (intOf i).toNat)
  case atStart => exact ⟨0, Nat.zero_le _, rfl, HE0, Upd.refl _ _⟩
  case round =>
    obtain ⟨j, hj, rfl, HE, HU⟩ := hrel
    by_cases h0 : j < c
    · have c4 := HP.out wr HU.out
      have cj := HC.out wr j HU.out h0
      have HZ1 := Lib.hid (fun W => HZ.out j W h0)
      have hst := HST.out j
      rw [HE.out, Bool.true_and] at hst
      have hzl := HZL.out j h0
      generalize f j = s at *
      obtain ⟨z, hz⟩ : ∃ z, zer s.data.toList = z := ⟨_, rfl⟩
      rw [hz] at HZ1 hst hzl
      have HS := Lib.hid hst
      clear hz hst
      by_cases h1 : z ≤ t
      · have d1 : decide (t < z) = false := decide_eq_false (by omega)
        go_wp2_with fail
        go_quiet ((go_at_call 122; with_reducible exact quiet_eqF (HZ1.out _)))
        go_wp2_with fail
        go_roundw
        case rel => exact ⟨j + 1, by omega, by go_num, by rw [HS.out]; exact decide_eq_true h1, HU.out.drewN _⟩
        case measure => simp [intOf]; omega
      · have d1 : decide (t < z) = true := decide_eq_true (by omega)
        go_wp2_with fail
        go_quiet ((go_at_call 122; with_reducible exact quiet_eqF (HZ1.out _)))
        go_wp2_with fail
        go_ret
        exact ⟨by rw [HSO.out (j + 1) (by omega) (by rw [HS.out]; exact decide_eq_false h1)]; rfl, HU.out.drewN _⟩
    · obtain rfl : j = c := by omega
      go_wp2_with fail
      go_ret
      exact ⟨by rw [HE.out]; rfl, HU.out⟩
end Go.Proofs.YtoledgpcgjdjjaaGreatDoor

/- protectedChunks. -/
namespace Go.Proofs.YtoledgpcgjdjjaaGreatDoor
open F
open Go.RowKit Pm Cm
set_option linter.unusedVariables false

structure PS (w : World) (q : Nat) (b p : Int) (c k t : Nat) (ch bb : Nat) (pb : Nat → Nat) (M : Ch) (cc : Nat) (W : World) : Prop where
  i : PgrIn W q b p c k t ch bb pb M cc
  u : Upd (oneBlock cc) w W
section
variable {w W W' : World} {q : Nat} {b p : Int} {c k t : Nat} {ch bb : Nat} {pb : Nat → Nat} {M : Ch} {cc : Nat}
theorem PS.quiet (h : PS w q b p c k t ch bb pb M cc W) (hu : Upd noBlock W W') : PS w q b p c k t ch bb pb M cc W' := ⟨h.i.keep hu, h.u.trans (POwn.none hu)⟩
theorem PS.drew (h : PS w q b p c k t ch bb pb M cc W) : PS w q b p c k t ch bb pb M cc W.drew := h.quiet ((Upd.refl _ _).drew)
theorem PS.par (h : PS w q b p c k t ch bb pb M cc W) (hm : Made W' cc t (k : Int)) (hu : Upd (oneBlock cc) W W') : PS w q b p c k t ch bb pb M cc W' := ⟨h.i.coded hu (.inr hm), h.u.trans hu⟩
theorem PS.start (h : PgrIn w q b p c k t ch bb pb M cc) : PS w q b p c k t ch bb pb M cc w := ⟨h, Upd.refl _ _⟩
theorem PS.cells (h : PS w q b p c k t ch bb pb M cc W) : W.cell? ⟨q, 2, none⟩ = some (.int .i64 (c : Int)) ∧ W.cell? ⟨q, 3, none⟩ = some (.int .i64 (k : Int)) ∧ W.cell? ⟨q, 4, none⟩ = some (.int .i64 (t : Int)) ∧ W.cell? ⟨q, 5, none⟩ = some (.pointer (some ⟨ch, 0, none⟩)) ∧ W.cell? ⟨q, 6, none⟩ = some (.pointer (some ⟨cc, 0, none⟩)) :=
  ⟨h.i.pg.c2, h.i.pg.c3, h.i.pg.c4, h.i.pg.c5, h.i.pg.c6⟩
end
theorem PgrIn.strs {w w' : World} {q : Nat} {b p : Int} {c k t : Nat} {ch bb : Nat} {pb : Nat → Nat} {M : Ch} {cc g n : Nat} {f : Nat → ByteArray} (h : PgrIn w q b p c k t ch bb pb M cc) (hT : TR w g n f) (hu : Upd (oneBlock g) w w') : PgrIn w' q b p c k t ch bb pb M cc := by
  obtain ⟨x, hx⟩ := h.code.block
  obtain ⟨y, hy⟩ := hT.block
  refine ⟨h.pg.upd hu (fun e => apart h.pg hy (by decide) e), h.chip.upd hu (fun i hi e => ?_) (fun g' a z hg e => apart hg hy (by decide) e), h.code.by hu (fun e => apart hx hy (by decide) e) (fun g' a z hg e => apart hg hy (by decide) e)⟩
  have e' : i = g := e
  rw [e'] at hi
  rcases hi with e1 | e1 | ⟨b, hb, e1⟩
  · exact apart hy h.chip.top (by decide) e1
  · obtain ⟨z, hz⟩ := row_block h.chip.blks
    exact apart hy hz (by decide) e1
  · obtain ⟨z, hz⟩ := (h.chip.pgs b hb).block
    exact apart hy hz (by decide) e1
def pcT (raw : ByteArray) (s j : Nat) : ByteArray := raw.extract (j * s) ((j + 1) * s)
theorem pcT_list (raw : ByteArray) (s j : Nat) : (pcT raw s j).data.toList = pieceL raw.data.toList s j := by
  unfold pcT pieceL
  simp [Nat.succ_mul]
theorem pcT_size (raw : ByteArray) (s j c : Nat) (h : raw.size = c * s) (hj : j < c) : (pcT raw s j).size = s := by
  have h1 : (j + 1) * s ≤ c * s := Nat.mul_le_mul_right s hj
  unfold pcT
  rw [ByteArray.size_extract, Nat.succ_mul] at *
  omega
set_option maxRecDepth 100000 in
set_option maxHeartbeats 3200000 in
theorem pieces_any (q : Nat) (b p : Int) (c k t : Nat) (ch bb : Nat) (pb : Nat → Nat) (M : Ch) (cc : Nat) (raw : ByteArray) (w : World) (hG : GoodG b p c k t) (h : PgrIn w q b p c k t ch bb pb M cc) (hr : raw.size = c * (k + (13 * t + 7) / 8)) :
    Calls Tryz.prog 99 #[.pointer (some ⟨q, 0, none⟩), .string raw] w fun e w' => ∃ g, e = .returned (.slice (some ⟨g, 0, none⟩) c c) ∧ TR w' g c (fun j => pcT raw (k + (13 * t + 7) / 8) j) ∧ w.heap.size ≤ g ∧ PS w q b p c k t ch bb pb M cc w' := by
  have HPAR := Lib.hid (fun W (hW : CodeP W cc t (k : Int)) => parity_any cc t (k : Int) W hW (by have := hG.t1; omega) (by have := hG.t2; omega))
  obtain ⟨b1, b2, p1, p2, p4, c1, c2, k1, k2, t1, t2⟩ := hG
  clear b1 b2 p1 p2 p4
  obtain ⟨d, hd⟩ : ∃ d, (13 * t + 7) / 8 = d := ⟨_, rfl⟩
  have d2 : d ≤ 13 := by omega
  rw [hd] at HPAR hr ⊢
  clear hd
  obtain ⟨s, hs⟩ : ∃ s, k + d = s := ⟨_, rfl⟩
  have s2 : s ≤ 269 := by omega
  have e2 : IntKind.i64.wrap ((k : Int) + (d : Int)) = (s : Int) := by rw [show (k : Int) + (d : Int) = (s : Int) by omega, IntKind.wrap_i64]; omega
  rw [hs] at hr ⊢
  have SR := Lib.hid (PS.start h)
  have HK : Hid (∀ W, Hid (PS w q b p c k t ch bb pb M cc W) → W.cell? ⟨q, 3, none⟩ = some (.int .i64 (k : Int)) ∧ W.cell? ⟨q, 6, none⟩ = some (.pointer (some ⟨cc, 0, none⟩)) ∧ Hid (PS w q b p c k t ch bb pb M cc W)) := fun W h => ⟨h.out.cells.2.1, h.out.cells.2.2.2.2, h⟩
  clear h hs
  have HR := Lib.hid hr
  clear hr
  have hmk := makeT c (c : Int) rfl (by omega)
  go_enter Tryz.func99, Tryz.ntmps99
  go_upto_region 1 with fail
  go_region_held3 (fun W => W.cell? ⟨q, 3, none⟩ = some (.int .i64 (k : Int)) ∧ W.cell? ⟨q, 6, none⟩ = some (.pointer (some ⟨cc, 0, none⟩)) ∧ Hid (PS w q b p c k t ch bb pb M cc W))
    (first | exact HK.out _ SR | exact HK.out _ SR.out.drew | exact HK.out _ SW)
    (first
      | (go_at_call 58; go_split_ands; (with_reducible refine (HPAR.out _ (PgrIn.code (PS.i (Hid.out (by assumption))))).mono ?_); rintro e w5 ⟨rfl, hm5, hu5, _⟩; have SW : Hid (PS w q b p c k t ch bb pb M cc w5) := PS.par (Hid.out (by assumption)) hm5 hu5; clear hm5 hu5))
  all_goals
    clear e2 SR HK HPAR
    have z2 := SW.out.cells.1
    have HT0 := Lib.hid (TR.made w5 c)
    have HP0 := Lib.hid (SW.out.quiet ((Upd.refl noBlock w5).alloc (.cells (madeCells #[.string ⟨#[]⟩] c) 9)))
    have HG5 : Hid (w.heap.size ≤ w5.heap.size) := SW.out.u.size
    go_wp2
    obtain ⟨g, hg⟩ : ∃ g, g = w5.heap.size := ⟨_, rfl⟩
    rw [← hg] at HT0 HG5 ⊢
    clear hg z2 SW hmk
    go_loopw [27] (fun i wr => ∃ j : Nat, j ≤ c ∧ i = .int .i64 (j : Int) ∧ Hid (TR wr g c (fun x => if x < j then pcT raw s x else ⟨#[]⟩)) ∧ Hid (PS w q b p c k t ch bb pb M cc wr)) (fun i _ => c - (intOf i).toNat)
    case atStart => exact ⟨0, Nat.zero_le _, rfl, HT0.out.congr (fun j _ => by rw [if_neg (Nat.not_lt_zero j)]), HP0⟩
    case round =>
      clear HT0 HP0
      obtain ⟨j, hj, rfl, HT, HP⟩ := hrel
      by_cases h0 : j < c
      · have f1 := HT.out.free j
        have cj := HT.out.cell j h0
        have a1 : (j + 1) * s ≤ c * s := Nat.mul_le_mul_right s h0
        have a2 : j * s ≤ (j + 1) * s := Nat.mul_le_mul_right s (by omega)
        have a3 : c * s ≤ 1076 := Nat.mul_le_mul (show c ≤ 4 by omega) s2
        have HPC : Hid (raw.extract (j * s) ((j + 1) * s) = pcT raw s j) := rfl
        have e3 : ((j : Int)) * (s : Int) = ((j * s : Nat) : Int) := by push_cast; rfl
        have e4 : ((j : Int) + 1) * (s : Int) = (((j + 1) * s : Nat) : Int) := by push_cast; rfl
        obtain ⟨u, hu⟩ : ∃ u, j * s = u := ⟨_, rfl⟩
        obtain ⟨v, hv⟩ : ∃ v, (j + 1) * s = v := ⟨_, rfl⟩
        rw [hu] at e3 a2 HPC
        rw [hv] at e4 a1 a2 HPC
        have hr := HR.out
        have w3 : IntKind.i64.wrap ((j : Int) * (s : Int)) = (u : Int) := by rw [e3, IntKind.wrap_i64]; omega
        have w4 : IntKind.i64.wrap (((j : Int) + 1) * (s : Int)) = (v : Int) := by rw [e4, IntKind.wrap_i64]; omega
        have hvr : v ≤ raw.size := by omega
        have hur : u ≤ raw.size := by omega
        have m1 : min (u : Int) (raw.size : Int) = (u : Int) := by omega
        have m2 : min (v : Int) (raw.size : Int) = (v : Int) := by omega
        clear e3 e4 hu hv hr a1 a3
        have HS1 : Hid (TR (wr.setCell ⟨g, j, none⟩ (.string (raw.extract u v))) g c (fun x => if x < j + 1 then pcT raw s x else ⟨#[]⟩)) := (HT.out.set j _).congr fun x hx => by
          by_cases e : x = j
          · subst e; rw [if_pos rfl, if_pos (by omega), HPC.out]
          · rw [if_neg e]
            by_cases e2 : x < j
            · rw [if_pos e2, if_pos (by omega)]
            · rw [if_neg e2, if_neg (by omega)]
        have HS2 : Hid (PS w q b p c k t ch bb pb M cc (wr.setCell ⟨g, j, none⟩ (.string (raw.extract u v)))) :=
          ⟨HP.out.i.strs HT.out ((Upd.refl (oneBlock g) wr).setCell (p := ⟨g, j, none⟩) (.inl rfl) _), HP.out.u.setCell (p := ⟨g, j, none⟩) (.inr HG5.out) _⟩
        go_wp2
        go_roundw
        case rel => exact ⟨j + 1, by omega, by go_num, HS1, HS2⟩
        case measure => simp [intOf]; omega
      · obtain rfl : j = c := by omega
        go_wp2
        go_ret
        exact ⟨g, rfl, HT.out.congr (fun x hx => by rw [if_pos hx]), HG5.out, HP.out⟩
end Go.Proofs.YtoledgpcgjdjjaaGreatDoor

/- body, raw: the bytes of a page. -/
namespace Go.Proofs.YtoledgpcgjdjjaaGreatDoor
open F
open Go.RowKit Pm Cm
set_option linter.unusedVariables false

theorem repeatL_one (x : UInt8) : ∀ n, Lib.repeatL [x] n = List.replicate n x
  | 0 => rfl
  | n + 1 => by
    show [x] ++ Lib.repeatL [x] n = _
    rw [repeatL_one x n]; rfl
set_option maxRecDepth 100000 in
set_option maxHeartbeats 1600000 in
theorem pbody_any (q : Nat) (b p : Int) (c k t : Nat) (ch cc : Nat) (s : ByteArray) (w : World) (hG : GoodG b p c k t) (h : PgrB w q b p (c : Int) (k : Int) (t : Int) ch cc) (hT : Tab w) (hs : s.size ≤ c * k - 7) :
    Calls Tryz.prog 142 #[.pointer (some ⟨q, 0, none⟩), .string s] w fun e w' => e = .returned (.string ⟨(bodyL (c * k - 7) s.data.toList).toArray⟩) ∧ Upd noBlock w w' := by
  have HPAY := Lib.hid (fun W => payload_any b p c k t W hG)
  obtain ⟨b1, b2, p1, p2, p4, c1, c2, k1, k2, t1, t2⟩ := hG
  clear b1 b2 p1 p2 p4
  have m1 : 16 ≤ c * k := by have := Nat.mul_le_mul (show 1 ≤ c by omega) (show 16 ≤ k by omega); omega
  have m2 : c * k ≤ 1024 := by have := Nat.mul_le_mul (show c ≤ 4 by omega) (show k ≤ 256 by omega); omega
  obtain ⟨n, hn⟩ : ∃ n, c * k - 7 = n := ⟨_, rfl⟩
  have e1 : (c : Int) * (k : Int) - 7 = (n : Int) := by
    have : (c : Int) * (k : Int) = ((c * k : Nat) : Int) := by push_cast; rfl
    omega
  rw [hn] at hs ⊢
  rw [e1] at HPAY
  have n2 : n ≤ 1024 := by omega
  clear hn e1 m1 m2
  obtain ⟨m, hm⟩ : ∃ m, m + s.size = n := ⟨n - s.size, by omega⟩
  have e2 : (n : Int) - (s.size : Int) = (m : Int) := by omega
  have hzs : (⟨(Lib.repeatL (⟨#[0]⟩ : ByteArray).data.toList m).toArray⟩ : ByteArray) = ⟨(List.replicate m 0).toArray⟩ := by
    rw [show (⟨#[0]⟩ : ByteArray).data.toList = [0] from rfl, repeatL_one]
  have HREP := Lib.hid (fun W => Tryz.strings_Repeat ⟨#[0]⟩ m W (by omega) (by show 1 * m ≤ _; omega))
  simp only [hzs] at HREP
  have HTU : Hid (∀ W, Upd noBlock w W → Tab W) := fun W hW => hT.upd hW
  obtain ⟨zm, hzm⟩ : ∃ zm : ByteArray, ⟨(List.replicate m (0 : UInt8)).toArray⟩ = zm := ⟨_, rfl⟩
  have hzz : zm.size = m := by rw [← hzm]; simp [ByteArray.size]
  have hB : (⟨#[0, 0, 0]⟩ : ByteArray) ++ s ++ zm = ⟨([0, 0, 0] ++ padL n s.data.toList).toArray⟩ := by
    rw [← hzm]
    apply ByteArray.ext
    apply Array.ext'
    have hl : s.data.toList.length = s.size := rfl
    simp only [ByteArray.data_append, Array.toList_append, padL, hl]
    rw [show n - s.size = m by omega]
    simp
  have HSEAL : Hid (∀ W, Tab W → Calls Tryz.prog 187 #[.string (⟨#[0, 0, 0]⟩ ++ s ++ zm)] W fun e w' => e = .returned (.string ⟨(bodyL n s.data.toList).toArray⟩) ∧ Upd noBlock W w') := fun W hW => by
    rw [hB]
    exact seal_any ⟨([0, 0, 0] ++ padL n s.data.toList).toArray⟩ W (by
      have hl : s.data.toList.length = s.size := rfl
      have := padL_length (n := n) (l := s.data.toList) (by omega)
      show ([0, 0, 0] ++ padL n s.data.toList).toArray.size ≤ _
      simp only [List.size_toArray, List.length_append, this, List.length_cons, List.length_nil]
      omega) hW
  rw [hzm] at HREP
  generalize bodyL n s.data.toList = bd at *
  have hy1 : (⟨#[0, 0, 0]⟩ : ByteArray).size + s.size ≤ 9223372036854775807 := by show 3 + s.size ≤ _; omega
  have hy2 : ((⟨#[0, 0, 0]⟩ : ByteArray) ++ s).size + zm.size ≤ 9223372036854775807 := by rw [ByteArray.size_append]; show 3 + s.size + zm.size ≤ _; omega
  clear hB hzm hzz
  clear hzs hT
  have z0 := h.c0
  have z1 := h.c1
  have z2 := h.c2
  have z3 := h.c3
  have z4 := h.c4
  clear h
  unfold geoV at HPAY
  go_enter Tryz.func142, Tryz.ntmps142
  go_upto_region 1 with fail
  go_upto_region 2 with (first
    | (go_at_call 59; (with_reducible refine (HPAY.out _).mono ?_); rintro e w1 ⟨rfl, hu1⟩; have U1 := Lib.hid hu1; clear hu1)
    | (go_at_call 186; (with_reducible refine (HREP.out _).mono ?_); rintro e w2 ⟨rfl, hb2⟩; have U2 := Lib.hid (U1.out.trans (Upd.of_below hb2 _)); clear hb2))
  go_wp2_with (go_at_call 187; (with_reducible refine (HSEAL.out _ (HTU.out _ U2.out)).mono ?_); rintro e w3 ⟨rfl, hu3⟩; have U3 := Lib.hid (U2.out.trans hu3); clear hu3)
  go_ret
  exact ⟨rfl, U3.out⟩
theorem extr_mid (s : ByteArray) (k i : Nat) : (s.extract (i * k) ((i + 1) * k)).data.toList = chunkL s.data.toList k i := by
  unfold chunkL
  simp [Nat.succ_mul]
set_option maxRecDepth 100000 in
set_option maxHeartbeats 6400000 in
theorem praw_any (q : Nat) (b p : Int) (c k t : Nat) (ch bb : Nat) (pb : Nat → Nat) (M : Ch) (cc : Nat) (s : ByteArray) (w : World) (hG : GoodG b p c k t) (h : PgrIn w q b p c k t ch bb pb M cc) (hs : s.size = c * k) :
    Calls Tryz.prog 141 #[.pointer (some ⟨q, 0, none⟩), .string s] w fun e w' => e = .returned (.string ⟨(rawUp t k s.data.toList c).toArray⟩) ∧ CodeP w' cc t (k : Int) ∧ Upd (oneBlock cc) w w' := by
  obtain ⟨b1, b2, p1, p2, p4, c1, c2, k1, k2, t1, t2⟩ := hG
  clear b1 b2 p1 p2 p4
  have ht1 : 1 ≤ t := by omega
  have ht8 : t ≤ 8 := by omega
  have hck : c * k ≤ 1024 := Nat.mul_le_mul (show c ≤ 4 by omega) (show k ≤ 256 by omega)
  have HENC := Lib.hid (fun i W (hi : i < c) (hW : CodeP W cc t (k : Int)) => encode_any cc t k (s.extract (i * k) ((i + 1) * k)) W hW ht1 ht8 (by rw [ByteArray.size_extract]; unfold maxLen; omega) (by
    have h1 : (i + 1) * k ≤ c * k := Nat.mul_le_mul_right k hi
    rw [ByteArray.size_extract, Nat.succ_mul] at *
    omega))
  have HLEN := Lib.hid (fun i (hi : i ≤ c) => rawUp_length (t := t) (b := s.data.toList) (k := k) hs i hi)
  have HCH := Lib.hid (fun i => extr_mid s k i)
  have HUP : Hid (∀ i, rawUp t k s.data.toList (i + 1) = rawUp t k s.data.toList i ++ (chunkL s.data.toList k i ++ parT t (chunkL s.data.toList k i))) := fun i => rfl
  have HU0 : Hid (rawUp t k s.data.toList 0 = []) := rfl
  have HPL := Lib.hid (fun l => parT_length t l)
  have HQ : Hid (∀ W, Upd (oneBlock cc) w W → W.cell? ⟨q, 2, none⟩ = some (.int .i64 (c : Int)) ∧ W.cell? ⟨q, 3, none⟩ = some (.int .i64 (k : Int)) ∧ W.cell? ⟨q, 6, none⟩ = some (.pointer (some ⟨cc, 0, none⟩))) := fun W hW => by
    have h9 := h.pg.upd hW (fun e => h.q_cc e)
    exact ⟨h9.c2, h9.c3, h9.c6⟩
  have HP0 := Lib.hid (PB.start h.code)
  rw [← HU0.out] at HP0
  generalize rawUp t k s.data.toList = R at *
  clear HU0 h
  obtain ⟨B, hB⟩ : ∃ B, B = w.heap.size := ⟨_, rfl⟩
  have z2 := (HQ.out _ HP0.out.u).1
  go_enter Tryz.func141, Tryz.ntmps141
  go_wp2
  rw [← hB] at HP0 ⊢
  clear hB z2
  go_loopw [15] (fun i wr => ∃ j : Nat, j ≤ c ∧ i = .int .i64 (j : Int) ∧ Hid (PB w cc t (k : Int) B (R j) wr)) (fun i _ => c - (intOf i).toNat)
  case atStart => exact ⟨0, Nat.zero_le _, rfl, HP0⟩
  case round =>
    clear HP0
    obtain ⟨j, hj, rfl, HP⟩ := hrel
    by_cases h0 : j < c
    · obtain ⟨_, z3, z6⟩ := HQ.out wr HP.out.u
      have hln := HLEN.out j hj
      have hq2 : (13 * t + 7) / 8 ≤ 13 := by omega
      have hl : (R j).length ≤ 1100 := by rw [hln]; exact Nat.le_trans (Nat.mul_le_mul (show j ≤ 4 by omega) (show k + (13 * t + 7) / 8 ≤ 275 by omega)) (by decide)
      have HL := Lib.hid hl
      have HUP1 := HUP.out j
      have HCH1 := HCH.out j
      have HENC1 := Lib.hid (fun W hW => HENC.out j W h0 hW)
      have a1 : j * k ≤ 1024 := Nat.le_trans (Nat.mul_le_mul_right k (show j ≤ c by omega)) hck
      have a2 : (j + 1) * k ≤ 1024 := Nat.le_trans (Nat.mul_le_mul_right k (show j + 1 ≤ c by omega)) hck
      have a3 : (j + 1) * k ≤ s.size := by rw [hs]; exact Nat.mul_le_mul_right k (by omega)
      have a4 : j * k ≤ (j + 1) * k := Nat.mul_le_mul_right k (by omega)
      have HPLc := HPL.out (chunkL s.data.toList k j)
      have hcs : (s.extract (j * k) ((j + 1) * k)).size ≤ 256 := by rw [ByteArray.size_extract, Nat.succ_mul] at *; omega
      have e3 : ((j : Int)) * (k : Int) = ((j * k : Nat) : Int) := by push_cast; rfl
      have e4 : ((j : Int) + 1) * (k : Int) = (((j + 1) * k : Nat) : Int) := by push_cast; rfl
      rw [HCH1] at HENC1
      obtain ⟨u, hu⟩ : ∃ u, j * k = u := ⟨_, rfl⟩
      obtain ⟨v, hv⟩ : ∃ v, (j + 1) * k = v := ⟨_, rfl⟩
      rw [hu] at e3 a1
      rw [hv] at e4 a2 a3
      rw [hu, hv] at HENC1 HCH1 hcs a4
      clear hln hq2 hl hu hv
      have w3 : IntKind.i64.wrap ((j : Int) * (k : Int)) = (u : Int) := by rw [e3, IntKind.wrap_i64]; omega
      have w4 : IntKind.i64.wrap (((j : Int) + 1) * (k : Int)) = (v : Int) := by rw [e4, IntKind.wrap_i64]; omega
      have w5 : IntKind.i64.wrap ((j : Int) + 1) = (j : Int) + 1 := by rw [IntKind.wrap_i64]; omega
      clear e3 e4
      obtain ⟨y, hy⟩ : ∃ y, parT t (chunkL s.data.toList k j) = y := ⟨_, rfl⟩
      rw [hy] at HENC1 HUP1 HPLc
      rw [← HCH1] at HUP1
      have HUP2 := Lib.hid HUP1
      clear HUP1 HCH1 hy
      have HW1 : Hid (∀ W, PB w cc t (k : Int) B (R j) W → Calls Tryz.prog 124 #[.pointer (some ⟨B, 0, none⟩), .string (s.extract u v)] W fun e w' => (∃ z, e = .returned (.tuple #[.int .i64 z, .nilIface])) ∧ PB w cc t (k : Int) B (R j ++ (s.extract u v).data.toList) w') := fun W hW =>
        (bwrite_any B B (R j) (s.extract u v) W hW.bl (by have := HL.out; omega) hW.lt).mono fun e w' ⟨h1, h2, h3⟩ => ⟨⟨_, h1⟩, hW.wrote h2 h3⟩
      have HW2 : Hid (∀ W, PB w cc t (k : Int) B (R j ++ (s.extract u v).data.toList) W → Calls Tryz.prog 124 #[.pointer (some ⟨B, 0, none⟩), .string ⟨y.toArray⟩] W fun e w' => (∃ z, e = .returned (.tuple #[.int .i64 z, .nilIface])) ∧ PB w cc t (k : Int) B (R (j + 1)) w') := fun W hW =>
        (bwrite_any B B _ ⟨y.toArray⟩ W hW.bl (by
          have h1 : (s.extract u v).data.toList.length = (s.extract u v).size := rfl
          have h2 : (⟨y.toArray⟩ : ByteArray).size = y.length := by simp [ByteArray.size]
          have := HL.out
          rw [List.length_append, h1, h2, HPLc]; omega) hW.lt).mono fun e w' ⟨h1, h2, h3⟩ => ⟨⟨_, h1⟩, hW.wrote (by rw [HUP2.out, ← List.append_assoc]; exact h2) h3⟩
      have HPD := Lib.hid HP.out.drew
      have zd6 : wr.drew.cell? ⟨q, 6, none⟩ = some (.pointer (some ⟨cc, 0, none⟩)) := z6
      go_upto_region 5 with fail
      go_region
      generalize wr.drew = wd at *
      clear z3 z6 w3 w4 w5 HL
      generalize s.extract u v = x at *
      go_wp2_with (first
        | (go_at_call 185; (with_reducible refine (HENC1.out _ HPD.out.code).mono ?_); rintro e w6 ⟨rfl, hm6, hu6, -⟩; have P6 := Lib.hid (HPD.out.coded hm6 hu6); clear hm6 hu6)
        | (go_at_call 124; (with_reducible refine (HW1.out _ P6.out).mono ?_); rintro e w7 ⟨⟨z7, rfl⟩, hp7⟩; have P7 := Lib.hid hp7; clear hp7)
        | (go_at_call 124; (with_reducible refine (HW2.out _ P7.out).mono ?_); rintro e w8 ⟨⟨z8, rfl⟩, hp8⟩; have P8 := Lib.hid hp8; clear hp8))
      go_roundw
      case rel => exact ⟨j + 1, by omega, by go_num, P8⟩
      case measure => simp [intOf]; omega
    · obtain rfl : j = c := by omega
      obtain ⟨z2, _, _⟩ := HQ.out wr HP.out.u
      have HS := Lib.hid (bstring_any B B (R j) wr HP.out.bl HP.out.lt)
      go_wp2_with (go_at_call 125; (with_reducible refine HS.out.mono ?_); rintro e w3 ⟨rfl, hb3, hu3⟩; have P3 := Lib.hid (HP.out.wrote hb3 hu3); clear hb3 hu3)
      go_ret
      exact ⟨rfl, P3.out.code, P3.out.u⟩
end Go.Proofs.YtoledgpcgjdjjaaGreatDoor

/- Chip, New. -/
namespace Go.Proofs.YtoledgpcgjdjjaaGreatDoor
open F
open Go.RowKit Pm Cm
set_option linter.unusedVariables false

def rawN (t k c : Nat) : Nat := c * (k + (13 * t + 7) / 8)
theorem rawN_pos {t k c : Nat} {b p : Int} (h : GoodG b p c k t) : 17 ≤ rawN t k c ∧ rawN t k c ≤ 1076 := by
  obtain ⟨b1, b2, p1, p2, p4, c1, c2, k1, k2, t1, t2⟩ := h
  have h1 : 1 * (k + (13 * t + 7) / 8) ≤ c * (k + (13 * t + 7) / 8) := Nat.mul_le_mul_right _ (by omega)
  have h2 : c * (k + (13 * t + 7) / 8) ≤ 4 * 269 := Nat.mul_le_mul (by omega) (by omega)
  unfold rawN
  omega
theorem geo_cells {w : World} {g : Nat} {b p c k t : Int} {T : TypeId} (h : w.heap[g]? = some (.cells #[.int .i64 b, .int .i64 p, .int .i64 c, .int .i64 k, .int .i64 t] T (0, 0))) :
    w.cell? ⟨g, 0, none⟩ = some (.int .i64 b) ∧ w.cell? ⟨g, 1, none⟩ = some (.int .i64 p) ∧ w.cell? ⟨g, 2, none⟩ = some (.int .i64 c) ∧ w.cell? ⟨g, 3, none⟩ = some (.int .i64 k) ∧ w.cell? ⟨g, 4, none⟩ = some (.int .i64 t) :=
  ⟨cell_of h 0, cell_of h 1, cell_of h 2, cell_of h 3, cell_of h 4⟩
set_option maxRecDepth 100000 in
set_option maxHeartbeats 1600000 in
theorem chip_good (b p : Int) (c k t : Nat) (w : World) (h : GoodG b p c k t) :
    Calls Tryz.prog 9 #[geoV b p (c : Int) (k : Int) (t : Int)] w fun e w' => NewC b.toNat p.toNat (rawN t k c) w w' e := by
  have hr := rawN_pos h
  have HRAW := Lib.hid (fun W => raw_good b p c k t W h)
  have hrn : c * (k + (13 * t + 7) / 8) = rawN t k c := rfl
  simp only [hrn] at HRAW
  clear hrn
  obtain ⟨b1, b2, p1, p2, p4, c1, c2, k1, k2, t1, t2⟩ := h
  obtain ⟨m, hm⟩ : ∃ m, rawN t k c = m := ⟨_, rfl⟩
  rw [hm] at HRAW hr ⊢
  have HNEW := Lib.hid (fun W => new_at b.toNat p.toNat m b p (m : Int) (by omega) (by omega) rfl W (by omega) (by omega) (by omega) (by omega) (by omega) (by omega) (by omega))
  have d1 : ((m : Int) == 0) = false := beq_eq_false_iff_ne.2 (by omega)
  clear hm hr b1 b2 p1 p2 p4
  unfold geoV at *
  unfold NewC at *
  obtain ⟨wa, hwa⟩ : ∃ wa, wa = w.alloc (.cells #[.int .i64 b, .int .i64 p, .int .i64 (c : Int), .int .i64 (k : Int), .int .i64 (t : Int)] 27) := ⟨_, rfl⟩
  have hB : wa.heap[w.heap.size]? = some (.cells #[.int .i64 b, .int .i64 p, .int .i64 (c : Int), .int .i64 (k : Int), .int .i64 (t : Int)] 27 (0, 0)) := by rw [hwa]; exact heap_alloc_new w _
  have UA : Hid (Upd noBlock w wa) := by rw [hwa]; exact (Upd.refl _ _).alloc _
  obtain ⟨z0, z1, z2, z3, z4⟩ := geo_cells hB
  clear hB
  go_enter Tryz.func9, Tryz.ntmps9
  go_upto_region 1 with fail
  rw [← hwa]
  clear hwa
  go_wp2_with (first
    | (go_at_call 32; (with_reducible refine (HRAW.out _).mono ?_); rintro e w2 ⟨rfl, hu2⟩; have U2 := Lib.hid (UA.out.trans hu2); have y0 := upd_cell hu2 z0; have y1 := upd_cell hu2 z1; clear hu2)
    | (go_at_call 33; (with_reducible refine (HNEW.out _).mono ?_); rintro e w3 ⟨ch, bb, pb, rfl, hc, hu, hl⟩; have H3 := Lib.hid hc; have U3 := Lib.hid hu; have L3 := Lib.hid hl; clear hc hu hl))
  go_ret2
  exact ⟨ch, bb, pb, rfl, H3.out, U2.out.trans U3.out, fun i hi => Nat.le_trans U2.out.size (L3.out i hi)⟩
set_option maxRecDepth 100000 in
set_option maxHeartbeats 1600000 in
theorem pnew_good (b p : Int) (c k t ch : Nat) (w : World) (h : GoodG b p c k t) :
    Calls Tryz.prog 34 #[.pointer (some ⟨ch, 0, none⟩), geoV b p (c : Int) (k : Int) (t : Int)] w fun e w' => ∃ q cc, e = .returned (.tuple #[.pointer (some ⟨q, 0, none⟩), .int .i64 0]) ∧ PgrB w' q b p (c : Int) (k : Int) (t : Int) ch cc ∧ CodeP w' cc t (k : Int) ∧ w.heap.size ≤ q ∧ w.heap.size ≤ cc ∧ Upd noBlock w w' := by
  have HCO := Lib.hid (fun W => codeOf_good b p (c : Int) (k : Int) (t : Int) W h)
  rw [Int.toNat_natCast] at HCO
  clear h
  unfold geoV at *
  obtain ⟨wa, hwa⟩ : ∃ wa, wa = w.alloc (.cells #[.int .i64 b, .int .i64 p, .int .i64 (c : Int), .int .i64 (k : Int), .int .i64 (t : Int)] 27) := ⟨_, rfl⟩
  have hB : wa.heap[w.heap.size]? = some (.cells #[.int .i64 b, .int .i64 p, .int .i64 (c : Int), .int .i64 (k : Int), .int .i64 (t : Int)] 27 (0, 0)) := by rw [hwa]; exact heap_alloc_new w _
  have UA : Hid (Upd noBlock w wa) := by rw [hwa]; exact (Upd.refl _ _).alloc _
  obtain ⟨z0, z1, z2, z3, z4⟩ := geo_cells hB
  clear hB
  go_enter Tryz.func34, Tryz.ntmps34
  go_upto_region 1 with fail
  rw [← hwa]
  clear hwa
  go_wp2_with (first
    | (go_at_call 57; (with_reducible refine (HCO.out _).mono ?_); rintro e w2 ⟨cc, rfl, hl, hc, hu2⟩; have L2 : Hid (w.heap.size ≤ cc) := Nat.le_trans UA.out.size hl; have C2 := Lib.hid hc; have U2 := Lib.hid (UA.out.trans hu2); have y0 := upd_cell hu2 z0; have y1 := upd_cell hu2 z1; have y2 := upd_cell hu2 z2; have y3 := upd_cell hu2 z3; have y4 := upd_cell hu2 z4; clear hu2 hl hc))
  go_ret2
  exact ⟨_, _, rfl, heap_alloc_new w2 _, C2.out.keep ((Upd.refl _ _).alloc _), U2.out.size, L2.out, U2.out.alloc _⟩
end Go.Proofs.YtoledgpcgjdjjaaGreatDoor
