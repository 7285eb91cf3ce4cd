/- Blocks of wear: how they lie; the calls that look at one. -/
import Derived.Test.YtkjajmhanhbkdaaRows
import Derived.Test.YtkjajmhanhbkdaaApp
import Derived.Test.YtkjajmhanhbkdaaSt
import Derived.Test.YtkjajmhanhbkdaaTa
import Derived.WalkKit
import Derived.Lib.Hide
import Derived.WalkSpells
import Derived.WalkLawsBesides
import Derived.BigQuiet
import Derived.BigRegion
import Derived.Deep.OwnRows
import Derived.Deep.QuietTactic
namespace Go.Proofs.Ytkjajmhanhbkdaa
open Go.RowKit

/-- a block, plain -/
structure Bk where
  er : Int
  rd : Int
  us : Bool
  wo : Bool
def Bk.agg (b : Bk) : Value := .agg #[.int .i64 b.er, .int .i64 b.rd, .bool b.us, .bool b.wo]
def Bk.spare (b : Bk) : Bool := !b.us && !b.wo
def Bk.movable (b : Bk) : Bool := b.us && !b.wo
set_option maxRecDepth 100000 in
theorem spare_any (b : Bk) (w : World) :
    Calls Try.prog 35 #[b.agg] w fun e w' => e = .returned (.bool b.spare) ∧ Upd noBlock w w' := by
  obtain ⟨er, rd, us, wo⟩ := b
  have hu : Hid (Upd noBlock w (w.alloc (.cells #[.int .i64 er, .int .i64 rd, .bool us, .bool wo] 55))) := (Upd.refl _ _).alloc _
  unfold Bk.agg Bk.spare
  cases us <;> cases wo
  all_goals
    go_enter Try.func35, Try.ntmps35
    go_wp2
    go_ret
    exact ⟨rfl, hu.out⟩
set_option maxRecDepth 100000 in
theorem movable_any (b : Bk) (w : World) :
    Calls Try.prog 36 #[b.agg] w fun e w' => e = .returned (.bool b.movable) ∧ Upd noBlock w w' := by
  obtain ⟨er, rd, us, wo⟩ := b
  have hu : Hid (Upd noBlock w (w.alloc (.cells #[.int .i64 er, .int .i64 rd, .bool us, .bool wo] 55))) := (Upd.refl _ _).alloc _
  unfold Bk.agg Bk.movable
  cases us <;> cases wo
  all_goals
    go_enter Try.func36, Try.ntmps36
    go_wp2
    go_ret
    exact ⟨rfl, hu.out⟩
/-- a slice of blocks (of whatever type of that shape) -/
def Blks (w : World) (B : Nat) (a : Option Addr) (n : Nat) (f : Nat → Bk) : Prop :=
  0 < n → ∃ g off, a = some ⟨g, off, none⟩ ∧ g < B ∧ ∀ i, i < n → w.cell? ⟨g, off + i * 4, none⟩ = some (.int .i64 (f i).er) ∧ w.cell? ⟨g, off + i * 4 + 1, none⟩ = some (.int .i64 (f i).rd) ∧ w.cell? ⟨g, off + i * 4 + 2, none⟩ = some (.bool (f i).us) ∧ w.cell? ⟨g, off + i * 4 + 3, none⟩ = some (.bool (f i).wo)
theorem Blks.upd {w w' : World} {B n : Nat} {a : Option Addr} {f : Nat → Bk} (h : Blks w B a n f) {R : Nat → Prop} (hu : Upd R w w') (hB : B ≤ w.heap.size) (hR : ∀ g, a.map Addr.block = some g → g < B → ¬ R g) : Blks w' B a n f := by
  intro h0
  obtain ⟨g, off, rfl, hg, hc⟩ := h h0
  have e : ∀ j, w'.cell? ⟨g, j, none⟩ = w.cell? ⟨g, j, none⟩ := fun j => World.cell?_of_block (hu.block g (by omega) (hR g rfl hg))
  exact ⟨g, off, rfl, hg, fun i hi => by rw [e, e, e, e]; exact hc i hi⟩
theorem Blks.grow {w w' : World} {B n : Nat} {a : Option Addr} {f : Nat → Bk} (h : Blks w B a n f) (hu : Upd noBlock w w') (hB : B ≤ w.heap.size) : Blks w' B a n f := h.upd hu hB fun _ _ _ h => h
/-- those that are wanted below k -/
def chosenL (p : Bk → Bool) (f : Nat → Bk) : Nat → List Int
  | 0 => []
  | k + 1 => chosenL p f k ++ (if p (f k) = true then [(k : Int)] else [])
theorem chosen_yes {p : Bk → Bool} {f : Nat → Bk} {k : Nat} (h : p (f k) = true) : chosenL p f (k + 1) = chosenL p f k ++ [(k : Int)] := by
  show _ ++ _ = _; rw [if_pos h]
theorem chosen_no {p : Bk → Bool} {f : Nat → Bk} {k : Nat} (h : p (f k) = false) : chosenL p f (k + 1) = chosenL p f k := by
  show _ ++ _ = _; rw [h, if_neg (by decide), List.append_nil]
theorem chosen_len (p : Bk → Bool) (f : Nat → Bk) (k : Nat) : (chosenL p f k).length ≤ k := by
  induction k with
  | zero => exact Nat.le_refl _
  | succ k ih =>
    unfold chosenL
    rw [List.length_append]
    split <;> simp <;> omega
set_option maxRecDepth 100000 in
set_option maxHeartbeats 1600000 in
theorem chosen_any (F : FuncId) (cap : Array Value) (p : Bk → Bool) (a : Option Addr) (n c B : Nat) (f : Nat → Bk) (w : World) (h : Blks w B a n f) (hB : B ≤ w.heap.size) (hn : n ≤ 8796093022208)
    (eg : ∀ args w, (callFunc F args).run Try.prog w = .ok (.enter F args) w) (hp : ∀ b wz, Upd noBlock w wz → Calls Try.prog F (#[b.agg] ++ cap) wz fun e w' => e = .returned (.bool (p b)) ∧ Upd noBlock wz w') :
    Calls Try.prog 29 #[.slice a n c, .func (.func F) #[] cap] w fun e w' => ∃ v, e = .returned v ∧ OwnV w' w.heap.size v (chosenL p f n) ∧ Upd noBlock w w' := by
  obtain ⟨i0, hi0, hz0, hz1, hz2⟩ := intParts7
  have HS := Lib.hid h
  have HBB := Lib.hid hB
  have HP := Lib.hid hp
  clear h hB hp
  go_enter Try.func29, Try.ntmps29
  go_wp2
  go_loopw [5, 10] (fun v i wr => ∃ k : Nat, k ≤ n ∧ i = .int .i64 (k : Int) ∧ Hid (OwnV wr w.heap.size v (chosenL p f k)) ∧ Hid (Upd noBlock w wr)) (fun _ i _ => n - (intOf i).toNat)
  case atStart => exact ⟨0, Nat.zero_le _, rfl, OwnV.nil _ _, Upd.refl _ _⟩
  case round =>
    obtain ⟨k, hk, rfl, HO, HU⟩ := hrel
    by_cases h0 : k < n
    · obtain ⟨g, off, hab, hg, hc⟩ := HS.out (by omega)
      subst hab
      have e : ∀ j, wr.cell? ⟨g, j, none⟩ = w.cell? ⟨g, j, none⟩ := fun j => World.cell?_of_block (HU.out.block g (by have := HBB.out; omega) (fun h => h))
      obtain ⟨k0, k1, k2, k3⟩ := hc k h0
      rw [← e] at k0 k1 k2 k3
      clear hc e
      have HL : Hid ((chosenL p f k).length ≤ k) := chosen_len p f k
      go_wp2
      refine (HP.out (f k) _ (HU.out.alloc _)).mono ?_
      rintro e w2 ⟨rfl, u2⟩
      have U2 := Lib.hid ((HU.out.alloc (.cells #[.int .i64 (f k).er, .int .i64 (f k).rd, .bool (f k).us, .bool (f k).wo] 55)).trans u2)
      have O2 := Lib.hid ((HO.out.grow ((Upd.refl noBlock wr).alloc (.cells #[.int .i64 (f k).er, .int .i64 (f k).rd, .bool (f k).us, .bool (f k).wo] 55))).grow u2)
      clear u2 HO HU
      cases hq : p (f k)
      · have HN := Lib.hid (chosen_no hq)
        go_wp2_with fail
        go_roundw
        case rel => exact ⟨k + 1, by omega, by go_num, by rw [HN.out]; exact O2, U2⟩
        case measure => simp [intOf]; omega
      · have HN := Lib.hid (chosen_yes hq)
        have hbase := U2.out.size
        have O3 := Lib.hid (O2.out.grow ((Upd.refl noBlock w2).alloc (.cells #[.int .i64 (k : Int)] 3)))
        have U3 := Lib.hid (U2.out.alloc (.cells #[.int .i64 (k : Int)] 3))
        have HI := Lib.hid (ints_new w2 (k : Int))
        go_wp2_with (at_builtin; refine wpList_append_ints _ rfl (.tmp 18) (.tmp 20) _ rfl w.heap.size 3 i0 _ Try.underlying23 hi0 hz0 hz1 hz2 rfl _ (chosenL p f k).length (vals (chosenL p f k)) rfl O3.out (w2.heap.size + 1) (some ⟨w2.heap.size, 0, none⟩) 1 1 [(k : Int)] rfl HI.out (by have := HL.out; simp only [maxLen]; omega) (by have := HL.out; omega) (by simp; omega) ?_; intro v3 w3 hown3 hg3 _)
        go_roundw
        case rel => exact ⟨k + 1, by omega, by go_num, by rw [HN.out]; exact OwnV.snoc hown3, U3.out.grownOwn hg3 (fun i hi => (O3.out.lt i hi).1)⟩
        case measure => simp [intOf]; omega
    · obtain rfl : k = n := by omega
      go_wp2
      go_ret
      exact ⟨_, rfl, HO.out, HU.out⟩
/-- the first of some that has the least erases -/
def leastL (f : Nat → Bk) (l : List Int) : Int := l.foldl (fun m i => if m < 0 then i else if (f i.toNat).er < (f m.toNat).er then i else m) (-1)
theorem least_snoc (f : Nat → Bk) (l : List Int) (i : Int) : leastL f (l ++ [i]) = if leastL f l < 0 then i else if (f i.toNat).er < (f (leastL f l).toNat).er then i else leastL f l := by
  unfold leastL; rw [List.foldl_append]; rfl
/-- numbers of blocks -/
def Nums (n : Nat) (l : List Int) : Prop := ∀ k, k < l.length → ∃ p : Nat, l.getD k 0 = (p : Int) ∧ p < n
theorem least_num (f : Nat → Bk) (n : Nat) (l : List Int) (h : Nums n l) (k : Nat) (hk : k ≤ l.length) : leastL f (l.take k) = -1 ∨ ∃ p : Nat, leastL f (l.take k) = (p : Int) ∧ p < n := by
  induction k with
  | zero => exact .inl rfl
  | succ k ih =>
    have e : l.take (k + 1) = l.take k ++ [l.getD k 0] := by
      rw [List.getD_eq_getElem?_getD, List.getElem?_eq_getElem (by omega)]
      simp
    obtain ⟨p, hp, hpn⟩ := h k (by omega)
    rw [e, least_snoc, hp]
    split
    · exact .inr ⟨p, rfl, hpn⟩
    · split
      · exact .inr ⟨p, rfl, hpn⟩
      · exact ih (by omega)
theorem chosen_nums (p : Bk → Bool) (f : Nat → Bk) (n : Nat) : Nums n (chosenL p f n) := by
  have h : ∀ k, k ≤ n → Nums n (chosenL p f k) := by
    intro k
    induction k with
    | zero => intro _ i hi; exact absurd hi (Nat.not_lt_zero i)
    | succ k ih =>
      intro hk i hi
      cases hd : p (f k)
      · rw [chosen_no hd] at hi ⊢; exact ih (by omega) i hi
      · rw [chosen_yes hd] at hi ⊢
        rw [List.length_append, List.length_singleton] at hi
        by_cases e : i < (chosenL p f k).length
        · obtain ⟨q, h1, h2⟩ := ih (by omega) i e
          exact ⟨q, by rw [← h1, List.getD_eq_getElem?_getD, List.getD_eq_getElem?_getD, List.getElem?_append_left e], h2⟩
        · have : i = (chosenL p f k).length := by omega
          subst this
          exact ⟨k, by rw [List.getD_eq_getElem?_getD, List.getElem?_append_right (Nat.le_refl _)]; simp, by omega⟩
  exact h n (Nat.le_refl n)
set_option maxRecDepth 100000 in
set_option maxHeartbeats 1600000 in
theorem least_any (a : Option Addr) (n c B : Nat) (f : Nat → Bk) (a2 : Option Addr) (n2 c2 : Nat) (l : List Int) (w : World) (h : Blks w B a n f) (hl : Ints w w.heap.size a2 n2 l) (hm : Nums n l) (hn : n ≤ 8796093022208) (hn2 : n2 ≤ 8796093022208) :
    Calls Try.prog 34 #[.slice a n c, .slice a2 n2 c2] w fun e w' => e = .returned (.int .i64 (leastL f l)) ∧ Upd noBlock w w' ∧ w'.heap = w.heap := by
  have HS := Lib.hid h
  have HL := Lib.hid hl
  have HM := Lib.hid hm
  have hlen := hl.1
  clear h hl hm
  go_enter Try.func34, Try.ntmps34
  go_wp2
  go_loopw [5, 10] (fun v i wr => ∃ k : Nat, k ≤ n2 ∧ i = .int .i64 (k : Int) ∧ Hid (v = .int .i64 (leastL f (l.take k))) ∧ Hid (Upd noBlock w wr ∧ wr.heap = w.heap)) (fun _ i _ => n2 - (intOf i).toNat)
  case atStart => exact ⟨0, Nat.zero_le _, rfl, rfl, Upd.refl _ _, rfl⟩
  case round =>
    obtain ⟨k, hk, rfl, HV, HU⟩ := hrel
    obtain rfl := HV.out
    clear HV
    by_cases h0 : k < n2
    · obtain ⟨g, off, hab, hg, hc⟩ := HL.out.cell (by omega)
      subst hab
      obtain ⟨p, hp, hpn⟩ := HM.out k (by omega)
      have c1 : wr.cell? ⟨g, off + k, none⟩ = some (.int .i64 (p : Int)) := by rw [← hp]; exact (World.cell?_of_block (by rw [HU.out.2])).trans (hc k h0)
      obtain ⟨gb, offb, hab, hgb, hcb⟩ := HS.out (by omega)
      subst hab
      have e : ∀ j, wr.cell? ⟨gb, j, none⟩ = w.cell? ⟨gb, j, none⟩ := fun j => World.cell?_of_block (by rw [HU.out.2])
      have kp := (hcb p hpn).1
      rw [← e] at kp
      have HT : Hid (l.take (k + 1) = l.take k ++ [(p : Int)]) := by
        show _ = _
        rw [← hp, List.getD_eq_getElem?_getD, List.getElem?_eq_getElem (by omega)]
        simp
      have hpb : p ≤ 9223372036854775807 := by omega
      have hsn := least_snoc f (l.take k) (p : Int)
      rw [← HT.out] at hsn
      have HSN := Lib.hid hsn
      have hln := least_num f n l HM.out k (by omega)
      rcases hln with hln | ⟨q, hln, hqn⟩
      · have HN : Hid (leastL f (l.take (k + 1)) = (p : Int)) := by show _ = _; rw [HSN.out, hln]; rfl
        rw [hln]
        clear hc hp hcb e hln hsn HSN
        go_wp2
        go_quiet (fail)
        go_wp2
        go_roundw
        case rel => exact ⟨k + 1, by omega, by go_num, by rw [HN.out]; exact rfl, HU.out.1.drewN _, HU.out.2⟩
        case measure => simp [intOf]; omega
      · have kq := (hcb q hqn).1
        rw [← e] at kq
        rw [hln]
        have hq0 : ¬ (q : Int) < 0 := by omega
        by_cases hlt : (f p).er < (f q).er
        · have HN : Hid (leastL f (l.take (k + 1)) = (p : Int)) := by show _ = _; rw [HSN.out, hln, if_neg hq0, Int.toNat_natCast, Int.toNat_natCast, if_pos hlt]
          have hd : decide ((f p).er < (f q).er) = true := decide_eq_true hlt
          clear hc hp hcb e hln hsn HSN
          go_wp2
          go_quiet (fail)
          go_wp2
          go_roundw
          case rel => exact ⟨k + 1, by omega, by go_num, by rw [HN.out]; exact rfl, HU.out.1.drewN _, HU.out.2⟩
          case measure => simp [intOf]; omega
        · have HN : Hid (leastL f (l.take (k + 1)) = (q : Int)) := by show _ = _; rw [HSN.out, hln, if_neg hq0, Int.toNat_natCast, Int.toNat_natCast, if_neg hlt]
          have hd : decide ((f p).er < (f q).er) = false := decide_eq_false hlt
          clear hc hp hcb e hln hsn HSN
          go_wp2
          go_quiet (fail)
          go_wp2
          go_roundw
          case rel => exact ⟨k + 1, by omega, by go_num, by rw [HN.out]; exact rfl, HU.out.1.drewN _, HU.out.2⟩
          case measure => simp [intOf]; omega
    · obtain rfl : k = n2 := by omega
      have e : l.take k = l := List.take_of_length_le (by omega)
      rw [e]
      go_wp2
      go_ret
      exact ⟨rfl, HU.out.1, HU.out.2⟩
end Go.Proofs.Ytkjajmhanhbkdaa
