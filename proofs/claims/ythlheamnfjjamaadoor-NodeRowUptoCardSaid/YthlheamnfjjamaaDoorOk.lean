/- NodeApart. -/
import Derived.Test.YthlheamnfjjamaaDoorOj
import Derived.Test.YthlheamnfjjamaaDoorAr
import Derived.Laws.Cover1
namespace Go.Proofs.YthlheamnfjjamaaDoor
open Go.RowKit Cm
attribute [local irreducible] beZ valN Cm.shs Cm.nxt Cm.reg Cm.ext
attribute [local go_sem ↓] Go.wp_at_zero Go.wp_at_succ

theorem toLN (l : List UInt8) : (ByteArray.mk l.toArray).toList = l := by rw [ByteArray.toList_eq]
theorem eq_node (s0 s1 : Int) (g0 g1 l0 l1 : Bool) (qa qb qc qd : ByteArray) (E : Bool) (hE : (s0 == s1 && (g0 == g1 && (l0 == l1 && (qa.toList == qc.toList && qb.toList == qd.toList)))) = E) (w : World) :
    (binOp .eql 26 (.agg #[.int .i64 s0, .bool g0, .bool l0, .string qa, .string qb]) (.agg #[.int .i64 s1, .bool g1, .bool l1, .string qc, .string qd])).run Tryd.prog w = .ok (.bool E) w ∧
    (binOp .neq 26 (.agg #[.int .i64 s0, .bool g0, .bool l0, .string qa, .string qb]) (.agg #[.int .i64 s1, .bool g1, .bool l1, .string qc, .string qd])).run Tryd.prog w = .ok (.bool (!E)) w := by
  subst hE
  constructor
  all_goals
    go_simp
    by_cases h0 : s0 = s1 <;> by_cases h1 : g0 = g1 <;> by_cases h2 : l0 = l1 <;> by_cases h3 : qa.toList = qc.toList <;> by_cases h4 : qb.toList = qd.toList <;> simp [h0, h1, h2, h3, h4]
/-- the bytes tell the node: neither is the beginning of the other -/
theorem apart (s0 s1 : Int) (g0 g1 l0 l1 : Bool) (k v k' v' : List UInt8) (h : goodN s0 g0 k v = true) (h' : goodN s1 g1 k' v' = true) (n : Nat)
    (hn : n = min (sealed (rawN s0 g0 l0 k v)).length (sealed (rawN s1 g1 l1 k' v')).length) (he : (sealed (rawN s0 g0 l0 k v)).take n = (sealed (rawN s1 g1 l1 k' v')).take n) :
    s0 = s1 ∧ g0 = g1 ∧ l0 = l1 ∧ k = k' ∧ v = v' := by
  obtain ⟨⟨a0, a1⟩, a2, a3, a4⟩ := goodN_parts h
  obtain ⟨⟨b0, b1⟩, b2, b3, b4⟩ := goodN_parts h'
  have r1 := raw_length s0 g0 l0 k v
  have r2 := raw_length s1 g1 l1 k' v'
  have t1 := sealed_length (rawN s0 g0 l0 k v)
  have t2 := sealed_length (rawN s1 g1 l1 k' v')
  have hd : ∀ (L : List UInt8) (i j : Nat), i + j ≤ n → (L.drop i).take j = ((L.take n).drop i).take j := fun L i j hij => by
    rw [List.drop_take, List.take_take, Nat.min_eq_left (by omega)]
  have e1 : klenL (sealed (rawN s0 g0 l0 k v)) = klenL (sealed (rawN s1 g1 l1 k' v')) := by
    unfold klenL
    rw [hd _ 10 1 (by omega), he, ← hd _ 10 1 (by omega)]
  have e2 : vlenL (sealed (rawN s0 g0 l0 k v)) = vlenL (sealed (rawN s1 g1 l1 k' v')) := by
    unfold vlenL
    rw [hd _ 11 2 (by omega), he, ← hd _ 11 2 (by omega)]
  have k1 := raw_klen s0 g0 l0 k v (slb (ext 0 (rawN s0 g0 l0 k v))) a3
  have k2 := raw_klen s1 g1 l1 k' v' (slb (ext 0 (rawN s1 g1 l1 k' v'))) b3
  have v1 := raw_vlen s0 g0 l0 k v (slb (ext 0 (rawN s0 g0 l0 k v))) a4
  have v2 := raw_vlen s1 g1 l1 k' v' (slb (ext 0 (rawN s1 g1 l1 k' v'))) b4
  have f1 : klenL (sealed (rawN s0 g0 l0 k v)) = k.length := k1
  have f2 : klenL (sealed (rawN s1 g1 l1 k' v')) = k'.length := k2
  have f3 : vlenL (sealed (rawN s0 g0 l0 k v)) = v.length := v1
  have f4 : vlenL (sealed (rawN s1 g1 l1 k' v')) = v'.length := v2
  have hfull : sealed (rawN s0 g0 l0 k v) = sealed (rawN s1 g1 l1 k' v') := by
    have x1 := List.take_of_length_le (l := sealed (rawN s0 g0 l0 k v)) (i := n) (by omega)
    have x2 := List.take_of_length_le (l := sealed (rawN s1 g1 l1 k' v')) (i := n) (by omega)
    rw [← x1, ← x2, he]
  have hraw : rawN s0 g0 l0 k v = rawN s1 g1 l1 k' v' := by
    have hh : (rawN s0 g0 l0 k v) ++ slb (ext 0 (rawN s0 g0 l0 k v)) = (rawN s1 g1 l1 k' v') ++ slb (ext 0 (rawN s1 g1 l1 k' v')) := hfull
    exact (List.append_inj hh (by omega)).1
  obtain ⟨_, p2, p3⟩ := raw_flags s0 g0 l0 k v
  obtain ⟨_, q2, q3⟩ := raw_flags s1 g1 l1 k' v'
  obtain ⟨p4, p5⟩ := raw_key s0 g0 l0 k v a3
  obtain ⟨q4, q5⟩ := raw_key s1 g1 l1 k' v' b3
  have p6 := raw_seq s0 g0 l0 k v a0 a1
  have q6 := raw_seq s1 g1 l1 k' v' b0 b1
  rw [hraw] at p2 p3 p4 p5 p6
  exact ⟨p6.symm.trans q6, p2.symm.trans q2, p3.symm.trans q3, p4.symm.trans q4, p5.symm.trans q5⟩
end Go.Proofs.YthlheamnfjjamaaDoor
