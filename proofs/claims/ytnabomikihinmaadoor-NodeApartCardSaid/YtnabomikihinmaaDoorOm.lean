/- NodeApart, whole. -/
import Derived.Test.YtnabomikihinmaaDoorOl
namespace Go.Proofs.YtnabomikihinmaaDoor
open Go.RowKit Cm
attribute [local irreducible] beZ valN Cm.shs Cm.nxt Cm.reg Cm.ext

theorem enc_hid (seq : Int) (gone last : Bool) (k v : List UInt8) (hk : k.length ≤ maxLen) (hv : v.length ≤ maxLen) (g : Bool) (hg : goodN seq gone k v = g) : Hid (∀ W : World, Tab W → Calls Tryd.prog 11 #[.agg #[.int .i64 seq, .bool gone, .bool last, .string ⟨k.toArray⟩, .string ⟨v.toArray⟩]] W fun e w' => e = .returned (.tuple #[.string ⟨(if g then sealed (rawN seq gone last k v) else []).toArray⟩, .bool g]) ∧ Upd noBlock W w') := fun W hW => by
  have h := encodeN_any seq gone last k v W hk hv hW
  unfold encN at h
  rw [hg] at h
  exact h
theorem tmod2 (s : Int) : IntKind.i64.wrap (s.tmod 2) = s.tmod 2 ∧ wrap64 (s.tmod 2) = s.tmod 2 := by
  have h : -2 < s.tmod 2 ∧ s.tmod 2 < 2 := ⟨Int.lt_tmod_of_pos s (by decide), Int.tmod_lt_of_pos s (by decide)⟩
  refine ⟨?_, ?_⟩
  · rw [IntKind.wrap_i64]; omega
  · unfold wrap64; omega
theorem nodeApart_upd (s0 s1 : Int) (qa qb qc qd : ByteArray) (w : World) (ha : qa.size ≤ 140737488351232) (hb : qb.size ≤ 140737488351232) (hc : qc.size ≤ 140737488351232) (hd : qd.size ≤ 140737488351232) (hT : Tab w) :
    Calls Tryd.prog 8 #[.agg #[.int .i64 s0, .int .i64 s1], .agg #[.string qa, .string qb], .agg #[.string qc, .string qd]] w fun e w' => e = .returned (.bool true) ∧ Upd noBlock w w' := by
  obtain ⟨ka, rfl⟩ : ∃ l : List UInt8, qa = ⟨l.toArray⟩ := ⟨qa.data.toList, rfl⟩
  obtain ⟨va, rfl⟩ : ∃ l : List UInt8, qb = ⟨l.toArray⟩ := ⟨qb.data.toList, rfl⟩
  obtain ⟨kc, rfl⟩ : ∃ l : List UInt8, qc = ⟨l.toArray⟩ := ⟨qc.data.toList, rfl⟩
  obtain ⟨vc, rfl⟩ : ∃ l : List UInt8, qd = ⟨l.toArray⟩ := ⟨qd.data.toList, rfl⟩
  have ha' : ka.length ≤ maxLen := Nat.le_trans ha (by decide)
  have hb' : va.length ≤ maxLen := Nat.le_trans hb (by decide)
  have hc' : kc.length ≤ maxLen := Nat.le_trans hc (by decide)
  have hd' : vc.length ≤ maxLen := Nat.le_trans hd (by decide)
  have HT : Hid (∀ W, Upd noBlock w W → Tab W) := fun W h => hT.upd h
  obtain ⟨w0, v0⟩ := tmod2 s0
  obtain ⟨w1, v1⟩ := tmod2 s1
  obtain ⟨l0, hl0⟩ : ∃ b, (s0.tmod 2 == 0) = b := ⟨_, rfl⟩
  obtain ⟨l1, hl1⟩ : ∃ b, (s1.tmod 2 == 0) = b := ⟨_, rfl⟩
  have D := ByteArray.empty
  cases g1 : goodN s0 false ka va with
  | false =>
    exact apart_no1 w s0 s1 l0 l1 _ _ _ _ _ _ D D 0 0 _ HT hl0 hl1 w0 w1 v0 v1 (enc_hid s0 false l0 ka va ha' hb' false g1) (enc_hid s1 false l1 kc vc hc' hd' _ rfl)
  | true =>
    have HE1 := enc_hid s0 false l0 ka va ha' hb' true g1
    cases g2 : goodN s1 false kc vc with
    | false => exact apart_no2 w s0 s1 l0 l1 _ _ _ _ _ _ D D 0 0 HT hl0 hl1 w0 w1 v0 v1 HE1 (enc_hid s1 false l1 kc vc hc' hd' false g2)
    | true =>
      have HE2 := enc_hid s1 false l1 kc vc hc' hd' true g2
      rw [if_pos rfl] at HE1 HE2
      obtain ⟨_, p2, p3, p4⟩ := goodN_parts g1
      obtain ⟨_, q2, q3, q4⟩ := goodN_parts g2
      have r1 := raw_length s0 false l0 ka va
      have r2 := raw_length s1 false l1 kc vc
      have t1 := sealed_length (rawN s0 false l0 ka va)
      have t2 := sealed_length (rawN s1 false l1 kc vc)
      by_cases hE : s0 = s1 ∧ ka = kc ∧ va = vc
      · obtain ⟨rfl, rfl, rfl⟩ := hE
        have hll : l1 = l0 := by rw [← hl0, ← hl1]
        subst hll
        have e := eq_node s0 s0 false false l1 l1 ⟨ka.toArray⟩ ⟨va.toArray⟩ ⟨ka.toArray⟩ ⟨va.toArray⟩ true (by simp)
        exact apart_eq w s0 s0 l1 l1 _ _ D D _ D _ D (sealed (rawN s0 false l1 ka va)).length 0 HT hl0 hl0 w0 w0 v0 v0 HE1 HE1 (fun W => (e W).1) (fun W => (e W).2) rfl (by omega) (by rw [ext_str, List.drop_zero, Nat.sub_zero])
      · have hf : (s0 == s1 && (false == false && (l0 == l1 && ((⟨ka.toArray⟩ : ByteArray).toList == (⟨kc.toArray⟩ : ByteArray).toList && (⟨va.toArray⟩ : ByteArray).toList == (⟨vc.toArray⟩ : ByteArray).toList)))) = false := by
          rw [toL, toL, toL, toL]
          cases h : (s0 == s1 && (false == false && (l0 == l1 && (ka == kc && va == vc)))) with
          | false => rfl
          | true =>
            simp at h
            exact absurd ⟨h.1, h.2.2.1, h.2.2.2⟩ hE
        have e := eq_node s0 s1 false false l0 l1 ⟨ka.toArray⟩ ⟨va.toArray⟩ ⟨kc.toArray⟩ ⟨vc.toArray⟩ false hf
        refine apart_ne w s0 s1 l0 l1 _ _ _ _ _ _ _ _ (sealed (rawN s0 false l0 ka va)).length (sealed (rawN s1 false l1 kc vc)).length HT hl0 hl1 w0 w1 v0 v1 HE1 HE2 (fun W => (e W).1) (fun W => (e W).2) rfl rfl (by omega) (by omega) (min (sealed (rawN s0 false l0 ka va)).length (sealed (rawN s1 false l1 kc vc)).length) rfl (ext_str _ 0 _) (ext_str _ 0 _) ?_
        rw [toL, toL, List.drop_zero, List.drop_zero, Nat.sub_zero]
        cases h : ((sealed (rawN s0 false l0 ka va)).take (min (sealed (rawN s0 false l0 ka va)).length (sealed (rawN s1 false l1 kc vc)).length) == (sealed (rawN s1 false l1 kc vc)).take (min (sealed (rawN s0 false l0 ka va)).length (sealed (rawN s1 false l1 kc vc)).length)) with
        | false => rfl
        | true =>
          obtain ⟨x1, _, _, x2, x3⟩ := apart s0 s1 false false l0 l1 ka va kc vc g1 g2 _ rfl (by simpa using h)
          exact absurd ⟨x1, x2, x3⟩ hE
theorem nodeApart_walk (s0 s1 : Int) (qa qb qc qd : ByteArray) (w : World) (_ : (Lit.int IntKind.i64 s0).wf = true) (_ : (Lit.int IntKind.i64 s1).wf = true) (ha : qa.size ≤ 140737488351232) (hb : qb.size ≤ 140737488351232) (hc : qc.size ≤ 140737488351232) (hd : qd.size ≤ 140737488351232) (hT : Tab w) :
    Calls Tryd.prog 8 #[.agg #[.int .i64 s0, .int .i64 s1], .agg #[.string qa, .string qb], .agg #[.string qc, .string qd]] w fun e w' => e = .returned (.bool true) ∧ Below w.heap.size w w' :=
  (nodeApart_upd s0 s1 qa qb qc qd w ha hb hc hd hT).mono fun _ _ ⟨h, hu⟩ => ⟨h, hu.below (fun _ _ h => h)⟩
end Go.Proofs.YtnabomikihinmaaDoor
