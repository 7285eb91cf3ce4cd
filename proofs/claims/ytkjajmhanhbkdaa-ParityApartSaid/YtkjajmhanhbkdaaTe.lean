/- ParityPlans. -/
import Derived.Test.YtkjajmhanhbkdaaTd
namespace Go.Proofs.Ytkjajmhanhbkdaa
open Go.RowKit

/-- a slice of int in the blocks from L to H -/
structure Sl (w : World) (L H : Nat) (a : Option Addr) (n : Nat) (xs : List Int) : Prop where
  i : Ints w H a n xs
  lo : ∀ g, a.map Addr.block = some g → L ≤ g
theorem Sl.upd {w w' : World} {L H n : Nat} {a : Option Addr} {xs : List Int} (h : Sl w L H a n xs) {R : Nat → Prop} (hu : Upd R w w') (hH : H ≤ w.heap.size) (hR : ∀ g, L ≤ g → g < H → ¬ R g) : Sl w' L H a n xs :=
  ⟨h.i.upd hu hH fun g hg hl => hR g (h.lo g hg) hl, h.lo⟩
theorem Sl.grow {w w' : World} {L H n : Nat} {a : Option Addr} {xs : List Int} (h : Sl w L H a n xs) (hu : Upd noBlock w w') (hH : H ≤ w.heap.size) : Sl w' L H a n xs := h.upd hu hH fun _ _ _ h => h
theorem Sl.wide {w : World} {L H L' H' n : Nat} {a : Option Addr} {xs : List Int} (h : Sl w L H a n xs) (h1 : L' ≤ L) (h2 : H ≤ H') : Sl w L' H' a n xs := ⟨h.i.more h2, fun g hg => Nat.le_trans h1 (h.lo g hg)⟩
/-- its cells may be written -/
def RowOf (w : World) (B : Nat) (a : Option Addr) (n : Nat) : Prop := 0 < n → ∃ g cs, a = some ⟨g, 0, none⟩ ∧ B ≤ g ∧ w.heap[g]? = some (.cells cs 3 (0, 0)) ∧ n ≤ cs.size
theorem OwnV.slx {w : World} {B : Nat} {v : Value} {xs : List Int} (h : OwnV w B v xs) :
    ∃ a c, v = .slice a xs.length c ∧ Sl w B w.heap.size a xs.length xs ∧ RowOf w B a xs.length := by
  obtain ⟨a, c, hv, hi, _, hg⟩ := h.sl
  refine ⟨a, c, hv, ⟨hi, fun g hm => (hg g hm).1⟩, fun h0 => ?_⟩
  rcases h.2 with ⟨h1, h2⟩ | ⟨g, cap, cur, h1, hb, hg', hnc, hcm, hsz, htake⟩
  · rw [h1] at hv; simp only [Value.slice.injEq] at hv; exact absurd h0 (by omega)
  · rw [h1] at hv
    simp only [Value.slice.injEq] at hv
    obtain ⟨rfl, _, rfl⟩ := hv
    exact ⟨g, cur, rfl, hb, hg', by omega⟩
theorem OwnV.slN {w : World} {B n : Nat} {v : Value} {xs : List Int} (h : OwnV w B v xs) (hn : xs.length = n) :
    ∃ a c, v = .slice a n c ∧ Sl w B w.heap.size a n xs ∧ RowOf w B a n := by subst hn; exact h.slx
theorem RowOf.upd {w w' : World} {B n : Nat} {a : Option Addr} (h : RowOf w B a n) {R : Nat → Prop} (hu : Upd R w w') (hR : ∀ g, B ≤ g → g < w.heap.size → ¬ R g) : RowOf w' B a n := by
  intro h0
  obtain ⟨g, cs, h1, h2, h3, h4⟩ := h h0
  exact ⟨g, cs, h1, h2, (hu.block g (lt_of_block h3) (hR g h2 (lt_of_block h3))).trans h3, h4⟩
theorem RowOf.set {w : World} {B n g k : Nat} (h : RowOf w B (some ⟨g, 0, none⟩) n) (v : Value) : RowOf (w.setCell ⟨g, k, none⟩ v) B (some ⟨g, 0, none⟩) n := by
  intro h0
  obtain ⟨g', cs, h1, h2, h3, h4⟩ := h h0
  cases h1
  exact ⟨g, _, rfl, h2, block_set h3 v, by rw [Array.size_setIfInBounds]; exact h4⟩

/-- what the law holds: both plans, the document's lists -/
structure PSt (w : World) (L S1 S2 : Nat) (n m : Nat) (D P : List Int) (a1 a2 a3 a4 a5 a6 : Option Addr) (c1 c2 c3 c4 H : Nat) : Prop where
  lt1 : S1 + 1 ≤ S2
  lt2 : S2 + 1 ≤ H
  b1 : w.heap[S1]? = some (.cells #[.slice a1 n c1, .slice a2 m c2] 25 (0, 0))
  b2 : w.heap[S2]? = some (.cells #[.slice a3 n c3, .slice a4 m c4] 25 (0, 0))
  i1 : Sl w L S1 a1 n D
  i2 : Sl w L S1 a2 m P
  i3 : Sl w (S1 + 1) S2 a3 n D
  hH : H ≤ w.heap.size
  i5 : Sl w (S2 + 1) H a5 n D
  i6 : Sl w (S2 + 1) H a6 m P
  r1 : RowOf w L a1 n
theorem PSt.grow {w w' : World} {L S1 S2 n m : Nat} {D P : List Int} {a1 a2 a3 a4 a5 a6 : Option Addr} {c1 c2 c3 c4 H : Nat} (h : PSt w L S1 S2 n m D P a1 a2 a3 a4 a5 a6 c1 c2 c3 c4 H) (hu : Upd noBlock w w') : PSt w' L S1 S2 n m D P a1 a2 a3 a4 a5 a6 c1 c2 c3 c4 H :=
  ⟨h.lt1, h.lt2, (hu.block _ (lt_of_block h.b1) (fun h => h)).trans h.b1, (hu.block _ (lt_of_block h.b2) (fun h => h)).trans h.b2, h.i1.grow hu (Nat.le_of_lt (lt_of_block h.b1)), h.i2.grow hu (Nat.le_of_lt (lt_of_block h.b1)), h.i3.grow hu (Nat.le_of_lt (lt_of_block h.b2)),
    Nat.le_trans h.hH hu.size, h.i5.grow hu h.hH, h.i6.grow hu h.hH, h.r1.upd hu (fun _ _ _ h => h)⟩

theorem pst_mk {w2 w3 w4 : World} {L n m : Nat} {D P : List Int} {a1 a2 a3 a4 a5 a6 : Option Addr} {c1 c2 c3 c4 : Nat} (s1 : Sl w2 L w2.heap.size a1 n D) (s2 : Sl w2 L w2.heap.size a2 m P) (r1 : RowOf w2 L a1 n)
    (u3 : Upd noBlock (w2.alloc (.cells #[.slice a1 n c1, .slice a2 m c2] 25)) w3) (s3 : Sl w3 (w2.alloc (.cells #[.slice a1 n c1, .slice a2 m c2] 25)).heap.size w3.heap.size a3 n D)
    (u4 : Upd noBlock (w3.alloc (.cells #[.slice a3 n c3, .slice a4 m c4] 25)) w4) (s5 : Sl w4 (w3.alloc (.cells #[.slice a3 n c3, .slice a4 m c4] 25)).heap.size w4.heap.size a5 n D)
    (s6 : Sl w4 (w3.alloc (.cells #[.slice a3 n c3, .slice a4 m c4] 25)).heap.size w4.heap.size a6 m P) :
    PSt w4 L w2.heap.size w3.heap.size n m D P a1 a2 a3 a4 a5 a6 c1 c2 c3 c4 w4.heap.size := by
  have z3 := u3.size
  have z4 := u4.size
  rw [World.size_alloc] at z3 z4 s3 s5 s6
  have v2 := (Upd.refl noBlock w2).alloc (.cells #[.slice a1 n c1, .slice a2 m c2] 25)
  have v3 := (Upd.refl noBlock w3).alloc (.cells #[.slice a3 n c3, .slice a4 m c4] 25)
  have u23 := v2.trans u3
  have u34 := v3.trans u4
  have u24 := u23.trans u34
  exact ⟨z3, z4, (u34.block _ (by omega) (fun h => h)).trans ((u3.block _ (by rw [World.size_alloc]; omega) (fun h => h)).trans (heap_alloc_new w2 _)),
    (u4.block _ (by rw [World.size_alloc]; omega) (fun h => h)).trans (heap_alloc_new w3 _),
    s1.grow u24 (Nat.le_refl _), s2.grow u24 (Nat.le_refl _), s3.grow u34 (Nat.le_refl _), Nat.le_refl _, s5, s6, r1.upd u24 (fun _ _ _ h => h)⟩

/-- a and c in the law's test -/
theorem want_cases (p : Nat) (g : Int) (gz go d : Bool) (e0 : (g == 0) = gz) (e1 : (g == 1) = go) (hd : decide (p % 4 < 2) = d) :
    (((grp p == g) = true ∧ ((d = true ∧ gz = true ∧ go = false) ∨ (d = false ∧ gz = false ∧ go = true))) ∨
    ((grp p == g) = false ∧ ((d = true ∧ gz = false ∧ go = true) ∨ (d = true ∧ gz = false ∧ go = false) ∨ (d = false ∧ gz = true ∧ go = false) ∨ (d = false ∧ gz = false ∧ go = false)))) := by
  have hx : (grp p == g) = (if d = true then gz else go) := by
    cases d
    · have : grp p = 1 := if_neg (of_decide_eq_false hd)
      rw [this, ← e1]; simp [Bool.beq_comm]
    · have : grp p = 0 := if_pos (of_decide_eq_true hd)
      rw [this, ← e0]; simp [Bool.beq_comm]
  have hne : ¬ (gz = true ∧ go = true) := by
    rintro ⟨rfl, rfl⟩
    have := beq_iff_eq.1 e0
    have := beq_iff_eq.1 e1
    omega
  rw [hx]
  cases d <;> cases gz <;> cases go <;> simp at hne ⊢
set_option maxRecDepth 100000 in
set_option maxHeartbeats 3200000 in
theorem plans_any (x : Int) (s : Bool) (g : Int) (gz go : Bool) (w : World) (e0 : (g == 0) = gz) (e1 : (g == 1) = go) :
    Calls Try.prog 3 #[.int .i64 x, .bool s, .int .i64 g] w fun e w' => e = .returned (.bool true) ∧ Upd noBlock w w' := by
  obtain ⟨i0, hi0, hz0, hz1, hz2⟩ := intParts7
  have HO := Lib.hid (of_any x s)
  have HRF := Lib.hid (ref_any x s)
  have HP := Lib.hid (DL_pages x s)
  have hD := DL_len x s
  have hPn := PL_len x s
  generalize DL x s = D at *
  generalize PL x s = P at *
  obtain ⟨n, hn⟩ : ∃ n, D.length = n := ⟨_, rfl⟩
  obtain ⟨m, hm⟩ : ∃ m, P.length = m := ⟨_, rfl⟩
  rw [hn] at hD
  rw [hm] at hPn
  have HNn := Lib.hid hn
  have HMm := Lib.hid hm
  clear hn hm
  generalize okX x = ok at *
  go_enter Try.func3, Try.ntmps3
  go_wp2_with (first
    | (go_at_call 10; refine (speaks7_any _).mono ?_; rintro e w1 ⟨rfl, u1⟩; have U1 := Lib.hid u1; clear u1)
    | (go_at_call 11; ((with_reducible refine (HO.out w1).mono ?_); rintro e w2 ⟨v1, v2, rfl, o1, o2, u2⟩; obtain ⟨a1, c1, rfl, s1, r1⟩ := o1.slN HNn.out; obtain ⟨a2, c2, rfl, s2, r2⟩ := o2.slN HMm.out; have U2 := Lib.hid u2; have S1 := Lib.hid s1; have S2 := Lib.hid s2; have R1 := Lib.hid r1; clear u2 s1 s2 r1 r2 o1 o2))
    | (go_at_call 11; ((with_reducible refine (HO.out (w2.alloc (.cells #[.slice a1 n c1, .slice a2 m c2] 25))).mono ?_); rintro e w3 ⟨v1, v2, rfl, o1, o2, u2⟩; obtain ⟨a3, c3, rfl, s1, r1⟩ := o1.slN HNn.out; obtain ⟨a4, c4, rfl, s2, r2⟩ := o2.slN HMm.out; have U3 := Lib.hid u2; have S3 := Lib.hid s1; clear u2 s1 s2 r1 r2 o1 o2))
    | (go_at_call 12; ((with_reducible refine (HRF.out (w3.alloc (.cells #[.slice a3 n c3, .slice a4 m c4] 25))).mono ?_); rintro e w4 ⟨v1, v2, rfl, o1, o2, u2⟩; obtain ⟨a5, c5, rfl, s1, r1⟩ := o1.slN HNn.out; obtain ⟨a6, c6, rfl, s2, r2⟩ := o2.slN HMm.out; have U4 := Lib.hid u2; have T4 := Lib.hid (pst_mk S1.out S2.out R1.out U3.out S3.out u2 s1 s2); have k0 := cell_of T4.out.b1 0; clear u2 s1 s2 r1 r2 o1 o2 S1 S2 R1 S3))
    | (go_at_call 13; ((with_reducible refine (ints_yes a1 n c1 _ a5 c5 _ D w4 T4.out.i1.i T4.out.i5.i (by simp only [maxLen]; omega)).mono ?_); rintro e w5 ⟨rfl, u2⟩; have U5 := Lib.hid u2; have T5 := Lib.hid (T4.out.grow u2); have k1 := cell_of T5.out.b1 1; clear u2))
    | (go_at_call 13; ((with_reducible refine (ints_yes a2 m c2 _ a6 c6 _ P w5 T5.out.i2.i T5.out.i6.i (by simp only [maxLen]; omega)).mono ?_); rintro e w6 ⟨rfl, u2⟩; have U6 := Lib.hid u2; have T6 := Lib.hid (T5.out.grow u2); clear u2)))
  go_loopw [14, 15] (fun v i wr => ∃ k : Nat, k ≤ n ∧ i = .int .i64 (k : Int) ∧ Hid (OwnV wr w6.heap.size v (ml g (D.take k))) ∧ Hid (Upd noBlock w6 wr)) (fun _ i _ => n - (intOf i).toNat)
  case atStart => exact ⟨0, Nat.zero_le _, rfl, OwnV.nil _ _, Upd.refl _ _⟩
  case round =>
    obtain ⟨k, hk, rfl, HW, HU⟩ := hrel
    by_cases h0 : k < n
    · have hlen := HNn.out
      obtain ⟨p, hp, hp64⟩ := HP.out k (by omega)
      have i5 := (T6.out.i5.grow HU.out T6.out.hH).i
      obtain ⟨b, off, hab, hb, hc⟩ := i5.cell (by omega)
      subst hab
      have c5' : wr.cell? ⟨b, off + k, none⟩ = some (.int .i64 (p : Int)) := by rw [← hp]; exact hc k h0
      have HL : Hid ((ml g (D.take k)).length ≤ 64) := by have := ml_len g D k; show _ ≤ 64; omega
      have hbase := HU.out.size
      have HO2 := Lib.hid (HW.out.grow ((Upd.refl noBlock wr).alloc (.cells #[.int .i64 (p : Int)] 3)))
      have HU2 := Lib.hid (HU.out.alloc (.cells #[.int .i64 (p : Int)] 3))
      have HI := Lib.hid (ints_new wr (p : Int))
      have HK : Hid (k < D.length) := by show _ < _; omega
      have HPK := Lib.hid hp
      obtain ⟨d, hd⟩ : ∃ d, decide (p % 4 < 2) = d := ⟨_, rfl⟩
      have HDD := Lib.hid hd
      have hcs := want_cases p g gz go d e0 e1 hd
      clear hc hp hd i5 hlen
      rcases hcs with ⟨hq, hcs⟩ | ⟨hq, hcs⟩
      · have HN := Lib.hid (ml_yes HK.out HPK.out hq)
        clear hq HW HU
        rcases hcs with ⟨rfl, rfl, rfl⟩ | ⟨rfl, rfl, rfl⟩
        all_goals
          go_wp2_with (first | (go_at_call 14; refine (lower_any p _).mono ?_; rintro e w' ⟨rfl, rfl⟩; rw [HDD.out]) | (at_builtin; refine wpList_append_ints _ rfl (.tmp 79) (.tmp 84) _ rfl w6.heap.size 3 i0 _ Try.underlying23 hi0 hz0 hz1 hz2 rfl _ (ml g (D.take k)).length (vals (ml g (D.take k))) rfl HO2.out (wr.heap.size + 1) (some ⟨wr.heap.size, 0, none⟩) 1 1 [(p : Int)] rfl HI.out (by have := HL.out; simp only [maxLen]; omega) (by have := HL.out; omega) (by simp; omega) ?_; intro v3 w3' hown3 hg3 _))
          go_roundw
          case rel => exact ⟨k + 1, by omega, by go_num, by rw [HN.out]; exact OwnV.snoc hown3, HU2.out.grownOwn hg3 (fun i hi => (HO2.out.lt i hi).1)⟩
          case measure => simp [intOf]; omega
      · have HN := Lib.hid (ml_no HK.out HPK.out hq)
        clear hq HO2 HU2 HI
        rcases hcs with ⟨rfl, rfl, rfl⟩ | ⟨rfl, rfl, rfl⟩ | ⟨rfl, rfl, rfl⟩ | ⟨rfl, rfl, rfl⟩
        all_goals
          go_wp2_with (go_at_call 14; refine (lower_any p _).mono ?_; rintro e w' ⟨rfl, rfl⟩; rw [HDD.out])
          go_roundw
          case rel => exact ⟨k + 1, by omega, by go_num, by rw [HN.out]; exact HW, HU⟩
          case measure => simp [intOf]; omega
    · obtain rfl : k = n := by omega
      have e : D.take k = D := List.take_of_length_le (by have := HNn.out; omega)
      rw [e] at HW
      have T7 := Lib.hid (T6.out.grow HU.out)
      obtain ⟨W, hW⟩ : ∃ W, ml g D = W := ⟨_, rfl⟩
      have HWW := Lib.hid hW
      have hml := ml_len g D D.length
      rw [List.take_of_length_le (Nat.le_refl _), HNn.out, hW] at hml
      rw [hW] at HW
      obtain ⟨nw, hnw⟩ : ∃ nw, W.length = nw := ⟨_, rfl⟩
      have HNW := Lib.hid hnw
      obtain ⟨a7, c7, hv, s7, -⟩ := HW.out.slN hnw
      subst hv
      have S7 := Lib.hid s7
      have k70 := cell_of T7.out.b1 0
      have k71 := cell_of T7.out.b1 1
      rw [hnw] at hml
      clear hnw hW s7 HW e k0 k1
      go_wp2_with (first
        | (go_at_call 15; ((with_reducible refine (members_any a1 k c1 _ _ D g wr T7.out.i1.i (Nat.le_of_lt (lt_of_block T7.out.b1)) HP.out (by omega)).mono ?_); rintro e w7 ⟨v, rfl, o1, u2⟩; rw [HWW.out] at o1; obtain ⟨a8, c8, rfl, s8, r8⟩ := o1.slN HNW.out; have U7 := Lib.hid u2; have T8 := Lib.hid (T7.out.grow u2); have S8 := Lib.hid s8; have R8 := Lib.hid r8; have S72 := Lib.hid (S7.out.grow u2 (Nat.le_refl _)); clear o1 u2 s8 r8))
        | (go_at_call 13; ((with_reducible refine (ints_yes a8 nw c8 _ a7 c7 _ W w7 S8.out.i S72.out.i (by simp only [maxLen]; omega)).mono ?_); rintro e w8 ⟨rfl, u2⟩; have U8 := Lib.hid u2; have T9 := Lib.hid (T8.out.grow u2); have S73 := Lib.hid (S72.out.grow u2 (U7.out.size)); have R82 := Lib.hid (R8.out.upd u2 (fun _ _ _ h => h)); clear u2)))
      clear k70 k71
      obtain ⟨wm, rfl⟩ : ∃ wm : World, wm = wr := ⟨_, rfl⟩
      have LL1 : Hid (w.heap.size ≤ w1.heap.size) := U1.out.size
      have UA : Hid (Upd noBlock w w8) := by
        have u3 := (((U1.out.trans U2.out).alloc _).trans U3.out)
        exact (((((((u3.alloc _).trans U4.out).trans U5.out).trans U6.out).trans HU.out).trans U7.out).trans U8.out)
      have Z7 : Hid (w6.heap.size ≤ wm.heap.size ∧ wm.heap.size ≤ w7.heap.size ∧ w7.heap.size ≤ w8.heap.size ∧ w4.heap.size ≤ w6.heap.size) := ⟨HU.out.size, U7.out.size, U8.out.size, T6.out.hH⟩
      go_loopw [17] (fun i wq => ∃ j : Nat, j ≤ k ∧ i = .int .i64 (j : Int) ∧ Hid (RowOf wq w1.heap.size a1 k) ∧ Hid (Upd (fun q => w1.heap.size ≤ q ∧ q < w2.heap.size) w8 wq)) (fun i _ => k - (intOf i).toNat)
      case atStart => exact ⟨0, Nat.zero_le _, rfl, T9.out.r1, Upd.refl _ _⟩
      case round =>
        obtain ⟨j, hj, rfl, HR, HQ⟩ := hrel
        have bp1 : Hid (wr.heap[w2.heap.size]? = some (.cells #[.slice a1 k c1, .slice a2 m c2] 25 (0, 0))) := (HQ.out.block _ (lt_of_block T9.out.b1) (fun h => by omega)).trans T9.out.b1
        have q0 := cell_of bp1.out 0
        by_cases j0 : j < k
        · obtain ⟨b, cs, hab, hb, hcs, hlt⟩ := HR.out (by omega)
          subst hab
          have z1 := T9.out.i1.i.cell (by omega)
          have hbl : b < w2.heap.size := by
            obtain ⟨b', off', hab', hb', _⟩ := z1
            cases hab'; exact hb'
          obtain ⟨cv, hcv⟩ : ∃ cv, cs[j]? = some cv := ⟨_, Array.getElem?_eq_getElem (by omega)⟩
          have cc : wr.cell? ⟨b, j, none⟩ = some cv := by rw [cell_of hcs]; exact hcv
          have ff : wr.frozen? ⟨b, j, none⟩ = false := free_of hcs j
          have HR2 := Lib.hid (HR.out.set (k := j) (.int .i64 (-8)))
          have HQ2 := Lib.hid (HQ.out.setCell (p := ⟨b, j, none⟩) (.inl ⟨hb, hbl⟩) (.int .i64 (-8)))
          clear hcs z1 hb hbl hlt hcv
          go_wp2
          go_roundw
          case rel => exact ⟨j + 1, by omega, by go_num, HR2, HQ2⟩
          case measure => simp [intOf]; omega
        · obtain rfl : j = k := by omega
          have zz := Z7.out
          have UB := HQ.out
          have b2 : Hid (wr.heap[w3.heap.size]? = some (.cells #[.slice a3 j c3, .slice a4 m c4] 25 (0, 0))) := (UB.block _ (lt_of_block T9.out.b2) (fun h => by have := T9.out.lt1; omega)).trans T9.out.b2
          have i3 := Lib.hid (T9.out.i3.upd UB (Nat.le_of_lt (lt_of_block T9.out.b2)) (fun g h1 _ h => by omega))
          have i5 := Lib.hid (T9.out.i5.upd UB T9.out.hH (fun g h1 _ h => by have := T9.out.lt1; omega))
          have hs2 : w2.heap.size ≤ w6.heap.size := Nat.le_of_lt (lt_of_block T6.out.b1)
          have i7 := Lib.hid (S73.out.upd UB (by omega) (fun g h1 _ h => by omega))
          have r8 := Lib.hid (R82.out.upd UB (fun g h1 _ h => by omega))
          have sz3 : w3.heap.size < w4.heap.size := by have := T6.out.lt2; exact this
          clear zz hs2
          go_wp2
          clear q0
          obtain ⟨wk, hwk⟩ : ∃ wk : World, wk = wr := ⟨_, rfl⟩
          rw [← hwk]
          rw [← hwk] at b2 i3 i5 i7 r8 UB HR HQ bp1
          have sk : Hid (w8.heap.size ≤ wk.heap.size) := UB.size
          clear hwk HR bp1
          have UBH := Lib.hid UB
          clear UB HQ wr
          go_loopw [18] (fun i wq => ∃ l : Nat, l ≤ nw ∧ i = .int .i64 (l : Int) ∧ Hid (RowOf wq wm.heap.size a8 nw) ∧ Hid (Upd (fun q => wm.heap.size ≤ q) wk wq)) (fun i _ => nw - (intOf i).toNat)
          case atStart => exact ⟨0, Nat.zero_le _, rfl, r8, Upd.refl _ _⟩
          case round =>
            obtain ⟨l, hl, rfl, HR, HQ⟩ := hrel
            by_cases l0 : l < nw
            · obtain ⟨b, cs, hab, hb, hcs, hlt⟩ := HR.out (by omega)
              subst hab
              obtain ⟨cv, hcv⟩ : ∃ cv, cs[l]? = some cv := ⟨_, Array.getElem?_eq_getElem (by omega)⟩
              have cc : wr.cell? ⟨b, l, none⟩ = some cv := by rw [cell_of hcs]; exact hcv
              have ff : wr.frozen? ⟨b, l, none⟩ = false := free_of hcs l
              have HR2 := Lib.hid (HR.out.set (k := l) (.int .i64 (-9)))
              have HQ2 := Lib.hid (HQ.out.setCell (p := ⟨b, l, none⟩) (.inl hb) (.int .i64 (-9)))
              clear hcs hb hlt hcv
              go_wp2
              go_roundw
              case rel => exact ⟨l + 1, by omega, by go_num, HR2, HQ2⟩
              case measure => simp [intOf]; omega
            · obtain rfl : l = nw := by omega
              have zz := Z7.out
              have b2' : Hid (wr.heap[w3.heap.size]? = some (.cells #[.slice a3 j c3, .slice a4 m c4] 25 (0, 0))) := (HQ.out.block _ (lt_of_block b2.out) (fun h => by omega)).trans b2.out
              have i3' := Lib.hid (i3.out.upd HQ.out (Nat.le_of_lt (lt_of_block b2.out)) (fun g _ h1 h => by omega))
              have i5' := Lib.hid (i5.out.upd HQ.out (by have := sk.out; omega) (fun g _ h1 h => by omega))
              have i7' := Lib.hid (i7.out.upd HQ.out (by have := sk.out; omega) (fun g _ h1 h => by omega))
              have q0 := cell_of b2'.out 0
              have s3' := lt_of_block b2'.out
              have sw4 : Hid (w4.heap.size ≤ wr.heap.size) := by have := HQ.out.size; have := sk.out; show _ ≤ _; omega
              have UZ : Hid (Upd noBlock w wr) := by
                have l1 := LL1.out
                have t1 := UA.out.step UBH.out (R := noBlock) (fun i hi hr => by omega)
                exact t1.step HQ.out (fun i hi hr => by have := UA.out.size; have := UBH.out; have h2 := U2.out.size; have zq := Z7.out; have h6 := T6.out.hH; have h3 := lt_of_block T6.out.b1; omega)
              clear zz
              go_wp2_with (first
                | (go_at_call 13; ((with_reducible refine (ints_yes a3 j c3 _ a5 c5 _ D wr i3'.out.i i5'.out.i (by simp only [maxLen]; omega)).mono ?_); rintro e w9 ⟨rfl, u9⟩; have U9 := Lib.hid u9; have q1 := cell_of ((u9.block _ s3' (fun h => h)).trans b2'.out) 0; have q2 := cell_of ((u9.block _ s3' (fun h => h)).trans b2'.out) 1; clear u9))
                | (go_at_call 15; ((with_reducible refine (members_any a3 j c3 _ _ D g w9 (i3'.out.grow U9.out (by omega)).i (by have := U9.out.size; omega) HP.out (by omega)).mono ?_); rintro e w10 ⟨v, rfl, o1, u10⟩; rw [HWW.out] at o1; obtain ⟨a9, c9, rfl, s9, r9⟩ := o1.slN HNW.out; have U10 := Lib.hid u10; have S9 := Lib.hid s9; clear o1 u10 s9 r9))
                | (go_at_call 13; ((with_reducible refine (ints_yes a9 l c9 _ a7 c7 _ W w10 S9.out.i ((i7'.out.grow U9.out (by have := HQ.out.size; have := sk.out; have := Z7.out; omega)).grow U10.out (by have := U9.out.size; have := HQ.out.size; have := sk.out; have := Z7.out; omega)).i (by simp only [maxLen]; omega)).mono ?_); rintro e w11 ⟨rfl, u11⟩; have U11 := Lib.hid u11; clear u11)))
              go_ret
              exact ⟨rfl, ((UZ.out.trans U9.out).trans U10.out).trans U11.out⟩

theorem parityPlans_walk (x : Int) (s : Bool) (g : Int) (w : World) (_ : (Lit.int .i64 x).wf = true) (_ : (Lit.int .i64 g).wf = true) :
    Calls Try.prog 3 #[.int .i64 x, .bool s, .int .i64 g] w fun e w' => e = .returned (.bool true) ∧ Below w.heap.size w w' :=
  (plans_any x s g _ _ w rfl rfl).mono fun _ _ ⟨h1, h2⟩ => ⟨h1, h2.below (fun _ _ h => h)⟩
end Go.Proofs.Ytkjajmhanhbkdaa
