/- The packer: New, Held, Flush, Add. -/
import Derived.Test.YthlheamnfjjamaaDoorQa
import Derived.Test.YthlheamnfjjamaaDoorSt
namespace Go.Proofs.YthlheamnfjjamaaDoor
open Go.RowKit

/-- the packer at block g: pages of s bytes, the bytes L are held, p pages were given; its text's block lies from B on -/
def PK (w : World) (B g s : Nat) (L : List UInt8) (p : Nat) : Prop :=
  g < B ∧ B ≤ w.heap.size ∧ 1 ≤ s ∧ s ≤ 2048 ∧ L.length ≤ s ∧ ∃ v, w.heap[g]? = some (.cells #[.int .i64 (s : Int), .int .i64 (L.length : Int), .int .i64 (p : Int), v] 100 (0, 0)) ∧ OwnB w B v L
theorem PK.upd {w w' : World} {B g s : Nat} {L : List UInt8} {p : Nat} (h : PK w B g s L p) (hu : Upd noBlock w w') : PK w' B g s L p := by
  obtain ⟨h1, h2, h3, h4, h5, v, h6, h7⟩ := h
  exact ⟨h1, Nat.le_trans h2 hu.size, h3, h4, h5, v, hu.cells h6 (fun h => h), h7.grow hu⟩
theorem OwnB.own7 {w : World} {B : Nat} {v : Value} {l : List UInt8} (h : OwnB w B v l) (k : Nat) (hk : v.ownBlock = some k) : B ≤ k ∧ k < w.heap.size := by
  rcases h.2 with ⟨h1, _⟩ | ⟨g, cap, cur, rfl, hb, hg, _⟩
  · rw [h1] at hk; cases hk
  · cases hk; exact ⟨hb, lt_of_block hg⟩
/-- what turns in one other block that is no text's -/
theorem PK.other {w w' : World} {B g s d : Nat} {L : List UInt8} {p : Nat} (h : PK w B g s L p) (hd : d < B) (hg : d ≠ g) (hu : Upd (oneBlock d) w w') : PK w' B g s L p := by
  obtain ⟨h1, h2, h3, h4, h5, v, h6, h7⟩ := h
  refine ⟨h1, Nat.le_trans h2 hu.size, h3, h4, h5, v, hu.cells h6 (fun h => hg h.symm), h7.upd hu fun k hk e => ?_⟩
  have := OwnB.own7 h7 k hk
  have e : k = d := e
  omega
/-- no text's block is the packer's -/
theorem ownB_ne {W : World} {B g : Nat} {x : Value} {L : List UInt8} {cs : Array Value} (hx : OwnB W B x L) (hc : W.heap[g]? = some (.cells cs 100 (0, 0))) : ∀ k, x.ownBlock = some k → ¬ k = g := fun k hk e => by
  rcases hx.2 with ⟨k1, _⟩ | ⟨k0, cap, cur, k1, _, k2, _⟩
  · rw [k1] at hk; cases hk
  · rw [k1] at hk; cases hk
    have e : k0 = g := e
    rw [e, hc] at k2; cases k2
/-- a text cut to nothing -/
theorem OwnB.cut {w : World} {B : Nat} {L : List UInt8} {a : Option Addr} {n c : Nat} (h : OwnB w B (.slice a n c) L) : OwnB w B (.slice (if c = 0 then a else a.map (·.add 0)) 0 c) [] := by
  refine ⟨rfl, ?_⟩
  rcases h.2 with ⟨h1, h2⟩ | ⟨g, cap, cur, h1, h2, h3, h4, h5, h6, h7⟩
  · simp only [Value.slice.injEq] at h1
    obtain ⟨rfl, rfl, rfl⟩ := h1
    exact .inl ⟨rfl, rfl⟩
  · simp only [Value.slice.injEq] at h1
    obtain ⟨rfl, rfl, rfl⟩ := h1
    refine .inr ⟨g, c, cur, ?_, h2, h3, Nat.zero_le _, h5, h6, rfl⟩
    by_cases hc : c = 0
    · rw [if_pos hc]; rfl
    · rw [if_neg hc]; rfl
/-- a new text is stored -/
theorem stored {w w1 : World} {B g : Nat} {x y z v v' : Value} {L L' : List UInt8} (hr : w.heap[g]? = some (.cells #[x, y, z, v] 100 (0, 0))) (hB : B ≤ w.heap.size) (hown : OwnB w B v L) (hg : w.grownBy w1 v.ownBlock) (hT : OwnB w1 B v' L') :
    w1.heap[g]? = some (.cells #[x, y, z, v] 100 (0, 0)) ∧ (w1.setCell ⟨g, 3, none⟩ v').heap[g]? = some (.cells #[x, y, z, v'] 100 (0, 0)) ∧ OwnB (w1.setCell ⟨g, 3, none⟩ v') B v' L' ∧ Turn B g w (w1.setCell ⟨g, 3, none⟩ v') := by
  have hlt := lt_of_block hr
  have r1 : w1.heap[g]? = some (.cells #[x, y, z, v] 100 (0, 0)) := (hg.block g hlt (fun e => ownB_ne hown hr g e.symm rfl)).trans hr
  have u1 : Upd (oneBlock g) w1 (w1.setCell ⟨g, 3, none⟩ v') := (Upd.refl (oneBlock g) w1).setCell (p := ⟨g, 3, none⟩) (.inl rfl) _
  refine ⟨r1, block_set r1 v', hT.upd u1 (ownB_ne hT r1), ⟨u1.os.trans hg.os, u1.tape.trans hg.tape, u1.output.trans hg.output, Nat.le_trans hg.size u1.size, fun k hk hn => (u1.block k (Nat.lt_of_lt_of_le (by omega) hg.size) hn).trans (hg.block k (by omega) (fun e => ?_)), fun k C e z hk h1 h2 => ?_⟩⟩
  · have := OwnB.own7 hown k e.symm
    omega
  · have hne : k ≠ g := fun e1 => by
      rw [e1, hr] at hk
      cases hk
      exact h2 rfl
    refine (u1.block k (Nat.lt_of_lt_of_le (lt_of_block hk) hg.size) hne).trans ((hg.block k (lt_of_block hk) (fun e1 => ?_)).trans hk)
    rcases hown.2 with ⟨k1, _⟩ | ⟨k0, cap, cur, k1, _, k2, _⟩
    · rw [k1] at e1; cases e1
    · rw [k1] at e1
      have e1 : k = k0 := by cases e1; rfl
      rw [e1, k2] at hk
      cases hk
      exact h1 rfl

def szQ (x : Int) : Nat := (min (max x 1) 2048).toNat
theorem szQ_le (x : Int) : 1 ≤ szQ x ∧ szQ x ≤ 2048 := by unfold szQ; omega
theorem szQ_eq (x : Int) : min (max x 1) 2048 = (szQ x : Int) := by unfold szQ; omega
theorem fillInfo : (Tryd.prog.info? 97).map (·.size) = some 3 := by kernel_rfl
set_option maxRecDepth 20000 in
theorem empty_any (x : Int) (w : World) (h1 : -9223372036854775808 ≤ x) (h2 : x ≤ 9223372036854775807) :
    Calls Tryd.prog 51 #[.int .i64 x] w fun e w' => e = .returned (.agg #[.int .i64 (szQ x : Int), .int .i64 0, .int .i64 0]) ∧ Upd noBlock w w' := by
  have hm := szQ_eq x
  generalize szQ x = s at *
  rcases (show x < 1 ∨ 2048 < x ∨ 1 ≤ x ∧ x ≤ 2048 by omega) with h | h | h
  · obtain rfl : s = 1 := by omega
    go_enter Tryd.func51, Tryd.ntmps51
    go_wp2
    exact bodyPost_ret_by (results_cell_row rfl _ _ w.heap.size _ _ _ _ rfl (heap_alloc_new w _) Tryd.underlying97 rfl fillInfo) rfl ⟨rfl, (Upd.refl _ _).alloc _⟩
  · obtain rfl : s = 2048 := by omega
    go_enter Tryd.func51, Tryd.ntmps51
    go_wp2
    exact bodyPost_ret_by (results_cell_row rfl _ _ w.heap.size _ _ _ _ rfl (heap_alloc_new w _) Tryd.underlying97 rfl fillInfo) rfl ⟨rfl, (Upd.refl _ _).alloc _⟩
  · obtain rfl : x = (s : Int) := by omega
    go_enter Tryd.func51, Tryd.ntmps51
    go_wp2
    exact bodyPost_ret_by (results_cell_row rfl _ _ w.heap.size _ _ _ _ rfl (heap_alloc_new w _) Tryd.underlying97 rfl fillInfo) rfl ⟨rfl, (Upd.refl _ _).alloc _⟩
set_option maxRecDepth 20000 in
theorem packNew (x : Int) (w : World) (h1 : -9223372036854775808 ≤ x) (h2 : x ≤ 9223372036854775807) :
    Calls Tryd.prog 30 #[.int .i64 x] w fun e w' => ∃ g, e = .returned (.pointer (some ⟨g, 0, none⟩)) ∧ w.heap.size ≤ g ∧ w'.heap[g]? = some (.cells #[.int .i64 (szQ x : Int), .int .i64 0, .int .i64 0, .slice none 0 0] 100 (0, 0)) ∧ Upd noBlock w w' := by
  go_enter Tryd.func30, Tryd.ntmps30
  go_wp2_with (go_at_call 51; refine (empty_any x _ h1 h2).mono ?_; rintro e w1 ⟨rfl, u1⟩; have U1 := Lib.hid u1; clear u1)
  go_ret
  exact ⟨_, rfl, U1.out.size, heap_alloc_new w1 _, U1.out.alloc _⟩
theorem PK.start {w' w : World} {g s B : Nat} (h : w'.heap[g]? = some (.cells #[.int .i64 (s : Int), .int .i64 0, .int .i64 0, .slice none 0 0] 100 (0, 0))) (hu : Upd noBlock w' w) (h1 : 1 ≤ s) (h2 : s ≤ 2048) (hg : g < B) (hB : B ≤ w.heap.size) : PK w B g s [] 0 :=
  ⟨hg, hB, h1, h2, Nat.zero_le _, _, hu.cells h (fun h => h), OwnB.nil _ _⟩
set_option maxRecDepth 20000 in
theorem take_any (B g : Nat) (x y z v : Value) (L : List UInt8) (w : World) (hr : w.heap[g]? = some (.cells #[x, y, z, v] 100 (0, 0))) (hB : B ≤ w.heap.size) (hown : OwnB w B v L) :
    Calls Tryd.prog 53 #[.pointer (some ⟨g, 0, none⟩)] w fun e w' => e = .returned (.string ⟨L.toArray⟩) ∧ ∃ v', w'.heap[g]? = some (.cells #[x, y, z, v'] 100 (0, 0)) ∧ OwnB w' B v' [] ∧ Turn B g w w' := by
  obtain ⟨i0, hi0, hz0, hz1, hz2⟩ := info_parts byteInfoB
  obtain ⟨a, c, rfl⟩ := hown.slice
  have hcv := hown.text
  have hlc : L.length ≤ c := by
    rcases hown.2 with ⟨h1, h2⟩ | ⟨g, cap, cur, h1, _, _, h4, _⟩
    · omega
    · simp only [Value.slice.injEq] at h1
      omega
  have c3 : w.cell? ⟨g, 3, none⟩ = some (.slice a L.length c) := cell_of hr 3
  have f3 := free_of hr 3
  have hsl : ∀ w : World, (Instr.sliceAt 59 (.slice a L.length c) none (some (.int .i64 0)) none).run Tryd.prog w = .ok (.slice (if c = 0 then a else a.map (·.add 0)) 0 c) w := fun w => run_slice_lo1 w 59 5 i0 Tryd.underlying59 hi0 a L.length c 0 (Nat.zero_le _) hlc
  have HT := Lib.hid (stored hr hB hown ⟨rfl, rfl, rfl, Nat.le_refl _, fun _ _ _ => rfl⟩ hown.cut)
  generalize (if c = 0 then a else a.map (·.add 0)) = a' at *
  clear hr hown
  go_enter Tryd.func53, Tryd.ntmps53
  go_wp2
  go_ret
  exact ⟨rfl, _, HT.out.2.1, HT.out.2.2.1, HT.out.2.2.2⟩

/-! the calls on a packer -/
set_option maxRecDepth 20000 in
theorem flush_nil (w : World) : Calls Tryd.prog 32 #[.pointer none] w fun e w' => e = .returned (.tuple #[.string ⟨([] : List UInt8).toArray⟩, .bool false]) ∧ w = w' := by
  go_enter Tryd.func32, Tryd.ntmps32
  go_wp2
  go_ret2
  exact ⟨rfl, rfl⟩
set_option maxRecDepth 20000 in
theorem add_nil (q : ByteArray) (w : World) : Calls Tryd.prog 31 #[.pointer none, .string q] w fun e w' => e = .returned (.tuple #[.string ⟨([] : List UInt8).toArray⟩, .bool false, .int .i64 1]) ∧ w = w' := by
  go_enter Tryd.func31, Tryd.ntmps31
  go_wp2
  go_ret3
  exact ⟨rfl, rfl⟩
set_option maxRecDepth 20000 in
theorem flush_none (B g s p : Nat) (w : World) (h : PK w B g s [] p) :
    Calls Tryd.prog 32 #[.pointer (some ⟨g, 0, none⟩)] w fun e w' => e = .returned (.tuple #[.string ⟨([] : List UInt8).toArray⟩, .bool false]) ∧ PK w' B g s [] p ∧ Turn B g w w' := by
  have H := Lib.hid h
  obtain ⟨_, _, _, _, _, v, h6, _⟩ := h
  have HE := Lib.hid (fend_zero g _ _ w h6 rfl)
  clear h6
  go_enter Tryd.func32, Tryd.ntmps32
  go_wp2_with (go_at_call 54; refine HE.out.mono ?_; rintro e w1 ⟨rfl, rfl⟩)
  go_ret2
  exact ⟨rfl, H.out, Turn.refl _ _ _⟩
set_option maxRecDepth 20000 in
theorem flush_some (B g s p : Nat) (L : List UInt8) (w : World) (h : PK w B g s L p) (hL : 0 < L.length) (hp : p < 4611686018427387904) :
    Calls Tryd.prog 32 #[.pointer (some ⟨g, 0, none⟩)] w fun e w' => e = .returned (.tuple #[.string ⟨L.toArray⟩, .bool true]) ∧ PK w' B g s [] (p + 1) ∧ Turn B g w w' := by
  obtain ⟨h1, h2, h3, h4, h5, v, h6, h7⟩ := h
  have HE := Lib.hid (fend_some g L.length p _ _ w h6 rfl rfl hL hp)
  have HT : Hid (∀ w1 : World, w1.heap[g]? = some (.cells #[.int .i64 (s : Int), .int .i64 0, .int .i64 ((p : Int) + 1), v] 100 (0, 0)) → Upd (oneBlock g) w w1 →
      Calls Tryd.prog 53 #[.pointer (some ⟨g, 0, none⟩)] w1 fun e w' => e = .returned (.string ⟨L.toArray⟩) ∧ PK w' B g s [] (p + 1) ∧ Turn B g w w') := fun w1 hb hu =>
    (take_any B g _ _ _ v L w1 hb (Nat.le_trans h2 hu.size) (h7.upd hu (ownB_ne h7 h6))).mono fun e w2 ⟨e1, v', r1, r2, r3⟩ =>
      ⟨e1, ⟨h1, Nat.le_trans (Nat.le_trans h2 hu.size) r3.size, h3, h4, Nat.zero_le _, v', r1, r2⟩, (Turn.of_upd hu h2 h6).trans r3⟩
  clear h1 h2 h3 h4 h5 h6 h7
  go_enter Tryd.func32, Tryd.ntmps32
  go_wp2_with (first
    | (go_at_call 54; refine HE.out.mono ?_; rintro e w1 ⟨rfl, hb1, hu1⟩; have HK := Lib.hid (HT.out w1 hb1 hu1); clear hb1 hu1)
    | (go_at_call 53; refine HK.out.mono ?_; rintro e w2 ⟨rfl, hp2, ht2⟩; have HP2 := Lib.hid hp2; have HT2 := Lib.hid ht2; clear hp2 ht2))
  go_ret2
  exact ⟨rfl, HP2.out, HT2.out⟩
set_option maxRecDepth 20000 in
theorem add_empty (B g s p : Nat) (L : List UInt8) (q : ByteArray) (w : World) (h : PK w B g s L p) (hq : q.size = 0) :
    Calls Tryd.prog 31 #[.pointer (some ⟨g, 0, none⟩), .string q] w fun e w' => e = .returned (.tuple #[.string ⟨([] : List UInt8).toArray⟩, .bool false, .int .i64 1]) ∧ PK w' B g s L p ∧ Turn B g w w' := by
  have H := Lib.hid h
  have e0 : q.toList.isEmpty = true := by rw [empQ, decide_eq_true hq]
  clear h hq
  go_enter Tryd.func31, Tryd.ntmps31
  go_wp2
  go_ret3
  exact ⟨rfl, H.out, Turn.refl _ _ _⟩
set_option maxRecDepth 20000 in
theorem add_long (B g s p : Nat) (L : List UInt8) (q : ByteArray) (w : World) (h : PK w B g s L p) (hq : s < q.size) (hm : q.size ≤ maxLen) :
    Calls Tryd.prog 31 #[.pointer (some ⟨g, 0, none⟩), .string q] w fun e w' => e = .returned (.tuple #[.string ⟨([] : List UInt8).toArray⟩, .bool false, .int .i64 2]) ∧ PK w' B g s L p ∧ Turn B g w w' := by
  have H := Lib.hid h
  obtain ⟨h1, h2, h3, h4, h5, v, h6, h7⟩ := h
  have e0 : q.toList.isEmpty = false := by rw [empQ, decide_eq_false (by omega)]
  have c0 : w.cell? ⟨g, 0, none⟩ = some (.int .i64 (s : Int)) := cell_of h6 0
  have hm' : q.size ≤ 9223372036854775807 := by unfold maxLen at hm; omega
  clear h1 h2 h3 h5 h6 h7 hm
  go_enter Tryd.func31, Tryd.ntmps31
  go_wp2
  go_ret3
  exact ⟨rfl, H.out, Turn.refl _ _ _⟩
end Go.Proofs.YthlheamnfjjamaaDoor
