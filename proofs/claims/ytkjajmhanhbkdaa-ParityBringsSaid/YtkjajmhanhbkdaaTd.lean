/- The members of a group; the law's look. -/
import Derived.Test.YtkjajmhanhbkdaaTc
namespace Go.Proofs.Ytkjajmhanhbkdaa
open Go.RowKit

/-- those of a group -/
def ml (g : Int) (xs : List Int) : List Int := xs.filter fun x => grp x.toNat == g
theorem ml_succ (g : Int) (xs : List Int) (k : Nat) (h : k < xs.length) : ml g (xs.take (k + 1)) = ml g (xs.take k) ++ (if (grp (xs.getD k 0).toNat == g) = true then [xs.getD k 0] else []) := by
  have e : xs.take (k + 1) = xs.take k ++ [xs.getD k 0] := by
    rw [List.getD_eq_getElem?_getD, List.getElem?_eq_getElem h]
    simp
  rw [e]
  unfold ml
  rw [List.filter_append, List.filter_cons, List.filter_nil]
theorem ml_yes {g : Int} {xs : List Int} {k p : Nat} (h : k < xs.length) (hp : xs.getD k 0 = (p : Int)) (hy : (grp p == g) = true) : ml g (xs.take (k + 1)) = ml g (xs.take k) ++ [(p : Int)] := by
  rw [ml_succ g xs k h, hp, Int.toNat_natCast, if_pos hy]
theorem ml_no {g : Int} {xs : List Int} {k p : Nat} (h : k < xs.length) (hp : xs.getD k 0 = (p : Int)) (hy : (grp p == g) = false) : ml g (xs.take (k + 1)) = ml g (xs.take k) := by
  rw [ml_succ g xs k h, hp, Int.toNat_natCast, hy, if_neg (by decide), List.append_nil]
theorem ml_len (g : Int) (xs : List Int) (k : Nat) : (ml g (xs.take k)).length ≤ k := by
  unfold ml
  have h1 := List.length_filter_le (fun x => grp x.toNat == g) (xs.take k)
  have h2 := List.length_take_le k xs
  omega
/-- all are numbers of pages -/
def Pages (xs : List Int) : Prop := ∀ k, k < xs.length → ∃ p : Nat, xs.getD k 0 = (p : Int) ∧ p < 64

set_option maxRecDepth 100000 in
set_option maxHeartbeats 1600000 in
theorem members_any (a : Option Addr) (n c B : Nat) (v2 : Value) (xs : List Int) (g : Int) (w : World) (hr : Ints w B a n xs) (hB : B ≤ w.heap.size) (hx : Pages xs) (hn : n ≤ 64) :
    Calls Try.prog 15 #[.agg #[.slice a n c, v2], .int .i64 g] w fun e w' =>
      ∃ v, e = .returned v ∧ OwnV w' w.heap.size v (ml g xs) ∧ Upd noBlock w w' := by
  obtain ⟨i0, hi0, hz0, hz1, hz2⟩ := intParts7
  have HR := Lib.hid hr
  have hlen := hr.1
  have HX := Lib.hid hx
  have HBB := Lib.hid hB
  clear hr hx hB
  go_enter Try.func15, Try.ntmps15
  go_wp2
  obtain ⟨w0, hw0⟩ : ∃ w0, w0 = w.alloc (.cells #[.slice a n c, v2] 25) := ⟨_, rfl⟩
  have U0 : Hid (Upd noBlock w w0) := by rw [hw0]; exact (Upd.refl _ _).alloc _
  rw [← hw0]
  clear hw0
  go_loopw [5, 11] (fun v i wr => ∃ k : Nat, k ≤ n ∧ i = .int .i64 (k : Int) ∧ Hid (OwnV wr w.heap.size v (ml g (xs.take k))) ∧ Hid (Upd noBlock w wr)) (fun _ i _ => n - (intOf i).toNat)
  case atStart => exact ⟨0, Nat.zero_le _, rfl, OwnV.nil _ _, U0⟩
  case round =>
    clear U0
    obtain ⟨k, hk, rfl, HO, HU⟩ := hrel
    by_cases h0 : k < n
    · obtain ⟨p, hp, hp64⟩ := HX.out k (by omega)
      obtain ⟨b, off, hab, hb, hc⟩ := HR.out.cell (by omega)
      subst hab
      have c1 : wr.cell? ⟨b, off + k, none⟩ = some (.int .i64 (p : Int)) := by rw [← hp]; exact (World.cell?_of_block (HU.out.block b (by have := HBB.out; omega) (fun h => h))).trans (hc k h0)
      have HL : Hid ((ml g (xs.take k)).length ≤ 64) := by have := ml_len g xs k; show _ ≤ 64; omega
      have hbase := HU.out.size
      have HO2 := Lib.hid (HO.out.grow ((Upd.refl noBlock wr).alloc (.cells #[.int .i64 (p : Int)] 3)))
      have HU2 := Lib.hid (HU.out.alloc (.cells #[.int .i64 (p : Int)] 3))
      have HI := Lib.hid (ints_new wr (p : Int))
      have HK : Hid (k < xs.length) := by show _ < _; omega
      have HPK := Lib.hid hp
      clear hc hp
      cases hq : grp p == g
      · have HN := Lib.hid (ml_no HK.out HPK.out hq)
        clear HO2 HU2 HI
        go_wp2_with (go_at_call 19; refine (group_any p _ (by omega)).mono ?_; rintro e w' ⟨rfl, rfl⟩)
        go_roundw
        case rel => exact ⟨k + 1, by omega, by go_num, by rw [HN.out]; exact HO, HU⟩
        case measure => simp [intOf]; omega
      · have HN := Lib.hid (ml_yes HK.out HPK.out hq)
        clear HO HU
        go_wp2_with (first | (go_at_call 19; refine (group_any p _ (by omega)).mono ?_; rintro e w' ⟨rfl, rfl⟩) | (at_builtin; refine wpList_append_ints _ rfl (.tmp 19) (.tmp 21) _ rfl w.heap.size 3 i0 _ Try.underlying23 hi0 hz0 hz1 hz2 rfl _ (ml g (xs.take k)).length (vals (ml g (xs.take k))) rfl HO2.out (wr.heap.size + 1) (some ⟨wr.heap.size, 0, none⟩) 1 1 [(p : Int)] rfl HI.out (by have := HL.out; simp only [maxLen]; omega) (by have := HL.out; omega) (by simp; omega) ?_; intro v3 w3 hown3 hg3 _))
        go_roundw
        case rel => exact ⟨k + 1, by omega, by go_num, by rw [HN.out]; exact OwnV.snoc hown3, HU2.out.grownOwn hg3 (fun i hi => (HO2.out.lt i hi).1)⟩
        case measure => simp [intOf]; omega
    · obtain rfl : k = n := by omega
      have e : xs.take k = xs := List.take_of_length_le (by omega)
      rw [e] at HO
      go_wp2
      go_ret
      exact ⟨_, rfl, HO.out, HU.out⟩

theorem dl_pages (s : Bool) (n : Nat) (h : n ≤ 64) : Pages (dl s n) := by
  induction n with
  | zero => intro k hk; exact absurd hk (Nat.not_lt_zero k)
  | succ n ih =>
    intro k hk
    have ih' := ih (by omega)
    cases hd : isData s n
    · rw [dl_no hd] at hk ⊢; exact ih' k hk
    · rw [dl_yes hd] at hk ⊢
      rw [List.length_append, List.length_singleton] at hk
      by_cases e : k < (dl s n).length
      · obtain ⟨p, h1, h2⟩ := ih' k e
        exact ⟨p, by rw [← h1, List.getD_eq_getElem?_getD, List.getD_eq_getElem?_getD, List.getElem?_append_left e], h2⟩
      · have : k = (dl s n).length := by omega
        subst this
        exact ⟨n, by rw [List.getD_eq_getElem?_getD, List.getElem?_append_right (Nat.le_refl _)]; simp, by omega⟩
theorem DL_pages (x : Int) (s : Bool) : Pages (DL x s) := by
  unfold DL
  cases h : okX x
  · intro k hk; exact absurd hk (Nat.not_lt_zero k)
  · simp only [if_true]
    obtain ⟨n, rfl, h1, h2, h3⟩ := okX_yes h
    exact dl_pages s _ (by simp; omega)
theorem DL_len (x : Int) (s : Bool) : (DL x s).length ≤ 61 := by
  unfold DL
  cases h : okX x
  · exact Nat.zero_le _
  · simp only [if_true]
    obtain ⟨n, rfl, h1, h2, h3⟩ := okX_yes h
    have := dl_len s ((n : Int).toNat - 3)
    simp at this ⊢
    omega
theorem PL_len (x : Int) (s : Bool) : (PL x s).length ≤ 2 := by
  unfold PL parL
  split
  · split <;> simp
  · simp

theorem ints_lit3 (w : World) (x y z : Int) : Ints (w.alloc (.cells #[.int .i64 x, .int .i64 y, .int .i64 z] 3)) (w.heap.size + 1) (some ⟨w.heap.size, 0, none⟩) 3 [x, y, z] :=
  ⟨rfl, fun _ => ⟨w.heap.size, 0, rfl, by omega, fun j hj => by
    rw [cell_of (heap_alloc_new w _)]
    match j, hj with
    | 0, _ => rfl
    | 1, _ => rfl
    | 2, _ => rfl⟩⟩
theorem behind_cell {w1 w2 : World} {cs : Array Value} {t : TypeId} {z : Nat × Nat} {O : Obj} (u : Upd noBlock ((w1.alloc (.cells cs t z)).alloc O) w2) (i : Nat) : w2.cell? ⟨w1.heap.size, i, none⟩ = cs[i]? :=
  cell_of ((u.block w1.heap.size (by simp; omega) (fun h => h)).trans (block_alloc (heap_alloc_new w1 _) _)) i
/-- a value read as a slice -/
structure IsSl (w : World) (v : Value) (xs : List Int) (a : Option Addr) (c : Nat) : Prop where
  v : v = .slice a xs.length c
  i : Ints w w.heap.size a xs.length xs
  n : xs.length ≤ maxLen
set_option maxRecDepth 100000 in
set_option maxHeartbeats 1600000 in
theorem speaks7_any (w : World) : Calls Try.prog 10 #[] w fun e w' => e = .returned (.bool true) ∧ Upd noBlock w w' := by
  have H8 := Lib.hid (of_any 8 true w)
  have e1 : DL 8 true = [0, 1, 4] := by decide
  have e2 : PL 8 true = [5] := by decide
  have e3 : okX 8 = true := by decide
  rw [e1, e2, e3] at H8
  clear e1 e2 e3
  go_enter Try.func10, Try.ntmps10
  go_wp2_with (first | (go_at_call 11; refine H8.out.mono ?_; rintro e w1 ⟨v1, v2, rfl, o1, o2, u1⟩; obtain ⟨a1, c1, rfl, i1, -, -⟩ := o1.sl; obtain ⟨a2, c2, rfl, i2, -, -⟩ := o2.sl; have U1 := Lib.hid u1; have I1 := Lib.hid i1; have I2 := Lib.hid i2; have l3 := ints_lit3 (w1.alloc (.cells #[.slice a1 3 c1, .slice a2 1 c2] 25)) 0 1 4; rw [World.size_alloc] at l3; have L3 := Lib.hid l3; clear l3 u1 i1 i2 o1 o2) | (go_at_call 13; ((with_reducible refine (ints_yes a1 3 c1 w1.heap.size _ _ _ [0, 1, 4] _ (I1.out.grow (((Upd.refl noBlock w1).alloc _).alloc _) (Nat.le_refl _)) L3.out (by decide)).mono ?_); rintro e w2 ⟨rfl, u2⟩; have U2 := Lib.hid u2; have c21 : w2.cell? ⟨w1.heap.size, 1, none⟩ = some (.slice a2 1 c2) := behind_cell u2 1; have I22 := Lib.hid ((I2.out.grow (((Upd.refl noBlock w1).alloc _).alloc _) (Nat.le_refl _)).grow u2 (by rw [World.size_alloc, World.size_alloc]; omega)); have S2 := u2.size; rw [World.size_alloc, World.size_alloc] at S2; have L1 := Lib.hid (ints_new w2 5); clear u2)) | (go_at_call 13; ((with_reducible refine (ints_yes a2 1 c2 w1.heap.size _ _ _ [5] _ (I22.out.grow ((Upd.refl noBlock w2).alloc _) (by omega)) L1.out (by decide)).mono ?_); rintro e w3 ⟨rfl, u3⟩; have U3 := Lib.hid u3; clear u3)))
  go_ret
  exact ⟨rfl, ((U1.out.alloc _).alloc _).trans (((U2.out).alloc _).trans U3.out)⟩
end Go.Proofs.Ytkjajmhanhbkdaa
