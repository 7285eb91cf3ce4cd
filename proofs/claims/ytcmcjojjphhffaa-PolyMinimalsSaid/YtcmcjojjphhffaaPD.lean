/- Walk over the document's own least polynomial. -/
import Derived.Test.YtcmcjojjphhffaaPC
import Derived.Test.YtcmcjojjphhffaaPl
import Derived.Test.YtcmcjojjphhffaaGfs
namespace Go.Proofs.Ytcmcjojjphhffaa
open Go.RowKit Pm Gfm
attribute [local irreducible] Pm.exps

section
variable {P : Program} (w : World)
theorem run_slice_lo (t e : TypeId) (i : TypeInfo) (ht : P.underlying t = some (.slice e)) (hi : P.info? e = some i) (A : Option Addr) (n c k : Nat) (hk : k ≤ n) (hc : n ≤ c) :
    (Instr.sliceAt t (.slice A n c) none (some (.int .i64 k)) none).run P w = .ok (.slice (if c = 0 then A else A.map (·.add 0)) k c) w := by
  have h1 : (k : Int) ≤ (c : Int) := by omega
  simp [Instr.sliceAt, Instr.slice, run_underlying ht, Instr.sliceBounds, run_sliceBound, sizeOf, typeInfo, hi, h1]
theorem run_slice_hi (t e : TypeId) (i : TypeInfo) (ht : P.underlying t = some (.slice e)) (hi : P.info? e = some i) (hsize : i.size = 1) (A : Option Addr) (n c k : Nat) (hk : k ≤ n) :
    (Instr.sliceAt t (.slice A n c) (some (.int .i64 k)) none none).run P w = .ok (.slice (if c = k then A else A.map (·.add k)) (n - k) (c - k)) w := by
  have h1 : (k : Int) ≤ (n : Int) := by omega
  simp [Instr.sliceAt, Instr.slice, run_underlying ht, Instr.sliceBounds, run_sliceBound, sizeOf, typeInfo, hi, hsize, h1]
theorem ints_head {B n k c : Nat} {A : Option Addr} {xs : List Int} (h : Ints w B A n xs) (hk : k ≤ n) : Ints w B (if c = 0 then A else A.map (·.add 0)) k (xs.take k) := by
  refine ⟨by rw [List.length_take, h.1]; omega, fun h0 => ?_⟩
  obtain ⟨g, o, rfl, hg, hc⟩ := h.2 (by omega)
  refine ⟨g, o, by split <;> simp [Addr.add], hg, fun i hi => ?_⟩
  rw [hc i (by omega), List.getD_eq_getElem?_getD, List.getD_eq_getElem?_getD, List.getElem?_take, if_pos hi]
theorem ints_tail {B n k c : Nat} {A : Option Addr} {xs : List Int} (h : Ints w B A n xs) (hk : k ≤ n) (hc : n ≤ c) : Ints w B (if c = k then A else A.map (·.add k)) (n - k) (xs.drop k) := by
  refine ⟨by rw [List.length_drop, h.1], fun h0 => ?_⟩
  obtain ⟨g, o, rfl, hg, hcl⟩ := h.2 (by omega)
  refine ⟨g, o + k, by rw [if_neg (by omega)]; simp [Addr.add], hg, fun i hi => ?_⟩
  rw [Nat.add_assoc, hcl (k + i) (by omega), List.getD_eq_getElem?_getD, List.getD_eq_getElem?_getD, List.getElem?_drop]
theorem wpList_slice_lo {ops : Array Oper} {rest : List Oper} {o : Oper} {a : Act} {Q : Exit → Act → World → Prop} (hgd : o.guard = none) (s x : Operand) (t : TypeId)
    (ho : o.op = .slice t s none (some x) none) (e : TypeId) (i : TypeInfo) (ht : P.underlying t = some (.slice e)) (hi : P.info? e = some i)
    (B : Nat) (A : Option Addr) (n c k : Nat) (xs : List Int) (hs : a.eval s = .slice A n c) (hx : a.eval x = .int .i64 (k : Int)) (hr : Ints w B A n xs) (hk : k ≤ n) (hc : n ≤ c)
    (h : ∀ A' c', Ints w B A' k (xs.take k) → wpList P ops Q rest (a.put o.dst (.slice A' k c')) w) : wpList P ops Q (o :: rest) a w :=
  wpList_plain hgd fun K hK => by
    have hrun := run_slice_lo (P := P) w t e i ht hi A n c k hk hc
    unfold Oper.wp execOp
    simp only [ho, Sem.run_bind, Sem.run_pure, Result.andThen_ok, Option.map_some, Option.map_none, hs, hx, hrun]
    exact hK _ _ (h _ _ (ints_head w hr hk))
theorem wpList_slice_hi {ops : Array Oper} {rest : List Oper} {o : Oper} {a : Act} {Q : Exit → Act → World → Prop} (hgd : o.guard = none) (s x : Operand) (t : TypeId)
    (ho : o.op = .slice t s (some x) none none) (e : TypeId) (i : TypeInfo) (ht : P.underlying t = some (.slice e)) (hi : P.info? e = some i) (hsize : i.size = 1)
    (B : Nat) (A : Option Addr) (n c k : Nat) (xs : List Int) (hs : a.eval s = .slice A n c) (hx : a.eval x = .int .i64 (k : Int)) (hr : Ints w B A n xs) (hk : k ≤ n) (hc : n ≤ c)
    (h : ∀ A' c', Ints w B A' (n - k) (xs.drop k) → wpList P ops Q rest (a.put o.dst (.slice A' (n - k) c')) w) : wpList P ops Q (o :: rest) a w :=
  wpList_plain hgd fun K hK => by
    have hrun := run_slice_hi (P := P) w t e i ht hi hsize A n c k hk
    unfold Oper.wp execOp
    simp only [ho, Sem.run_bind, Sem.run_pure, Result.andThen_ok, Option.map_some, Option.map_none, hs, hx, hrun]
    exact hK _ _ (h _ _ (ints_tail w hr hk hc))
end

/-- a row of the call's own, opened -/
theorem own_slice {w : World} {base e n : Nat} {v : Value} {xs : List Int} (h : w.ownsRow base e 1 v n (vals xs)) :
    ∃ a c, v = .slice a n c ∧ Ints w w.heap.size a n xs ∧ n ≤ c := by
  obtain ⟨a, c, rfl, hi, _, _⟩ := own_ints h
  refine ⟨a, c, rfl, hi, ?_⟩
  obtain ⟨_, h⟩ := h
  rcases h with ⟨h, hn⟩ | ⟨g, cap, cur, h, hb, hg, hnc, hcm, hsz, htake⟩
  · have : n = 0 := by
      have := congrArg (fun v : Value => match v with | .slice _ n _ => n | _ => 0) h
      simpa using this
    omega
  · have : c = cap := by
      have := congrArg (fun v : Value => match v with | .slice _ _ c => c | _ => 0) h
      simpa using this
    omega
theorem own_upd {w w' : World} {base e n : Nat} {v : Value} {xs : List Value} (h : w.ownsRow base e 1 v n xs) (hu : Upd noBlock w w') : w'.ownsRow base e 1 v n xs := by
  obtain ⟨hl, h⟩ := h
  refine ⟨hl, ?_⟩
  rcases h with h | ⟨g, cap, cur, h, hb, hg, hr⟩
  · exact .inl h
  · exact .inr ⟨g, cap, cur, h, hb, (hu.block g (lt_of_block hg) (fun h => h)).trans hg, hr⟩

theorem nats_ins (R : List Nat) (q Z : Nat) : nats (ins R q Z) = (nats R).take q ++ [(Z : Int)] ++ (nats R).drop q := by simp [nats, ins, List.map_take, List.map_drop]
theorem own_ins {w : World} {base q k Z : Nat} {v : Value} {R : List Nat} (h : w.ownsRow base 3 1 v (0 + q + 1 + (k - q)) ((([] ++ vals ((nats R).take q)) ++ vals [(Z : Int)]) ++ vals ((nats R).drop q))) (hq : q ≤ k) :
    w.ownsRow base 3 1 v (k + 1) (vals (nats (ins R q Z))) := by
  have e : 0 + q + 1 + (k - q) = k + 1 := by omega
  have e2 : (([] ++ vals ((nats R).take q)) ++ vals [(Z : Int)]) ++ vals ((nats R).drop q) = vals (nats (ins R q Z)) := by rw [nats_ins]; simp [vals]
  rw [e, e2] at h
  exact h

/-- what the elimination says from round d on -/
def mres (r : Nat) : Nat → Nat → Nat
  | _, 0 => 0
  | d, f + 1 => if (ez r d).1 = 0 then (ez r d).2 else mres r (d + 1) f
theorem i64_pow (m : Nat) (h : m < 63) : IntKind.i64.wrap (2 ^ m) = ((2 ^ m : Nat) : Int) := by
  have hp : 2 ^ m < 2 ^ 63 := Nat.pow_lt_pow_right (by omega) h
  have e : (2 : Int) ^ m = ((2 ^ m : Nat) : Int) := by rw [Int.natCast_pow]; rfl
  rw [e]
  exact wrap_i64_nat _ hp
end Go.Proofs.Ytcmcjojjphhffaa
