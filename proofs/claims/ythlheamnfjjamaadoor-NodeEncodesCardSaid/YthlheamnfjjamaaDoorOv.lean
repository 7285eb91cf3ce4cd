/- NodeEncodes. -/
import Derived.Test.YthlheamnfjjamaaDoorOk
import Derived.Test.YthlheamnfjjamaaDoorOu
import Derived.Test.YthlheamnfjjamaaDoorAb
namespace Go.Proofs.YthlheamnfjjamaaDoor
open Go.RowKit Cm
attribute [local irreducible] beZ valN Cm.shs Cm.nxt Cm.reg Cm.ext
attribute [local go_sem ↓] Go.wp_at_zero Go.wp_at_succ
set_option linter.unusedVariables false

theorem box2_facts (w W : World) (A B : Array Value) (t t' : TypeId) (h1 : Upd noBlock ((w.alloc (.cells A t)).alloc (.cells B t')) W) :
    (∀ i, W.cell? ⟨w.heap.size, i, none⟩ = A[i]?) ∧ (∀ i, W.cell? ⟨w.heap.size + 1, i, none⟩ = B[i]?) :=
  ⟨fun i => cell_of (h1.cells (block_alloc (heap_alloc_new w _) _) (fun h => h)) i, fun i => cell_of (h1.cells (heap_alloc2_new w _ _) (fun h => h)) i⟩
set_option maxRecDepth 20000 in
set_option maxHeartbeats 3200000 in
theorem enc_walk (w : World) (s0 : Int) (f0 f1 : Bool) (qa qb qs q1 q2 : ByteArray) (g : Bool) (ls : Nat) (HT : Hid (∀ W, Upd noBlock w W → Tab W))
    (HE : Hid (∀ W : World, Tab W → Calls Tryd.prog 12 #[.agg #[.int .i64 s0, .bool f0, .bool f1, .string qa, .string qb]] W fun e w' => e = .returned (.tuple #[.string qs, .bool g]) ∧ Upd noBlock W w'))
    (HR : Hid (∀ W : World, Calls Tryd.prog 13 #[.agg #[.int .i64 s0, .bool f0, .bool f1, .string qa, .string qb]] W fun e w' => e = .returned (.string qs) ∧ Upd noBlock W w'))
    (HG : Hid (∀ W : World, Calls Tryd.prog 14 #[.agg #[.int .i64 s0, .bool f0, .bool f1, .string qa, .string qb]] W fun e w' => e = .returned (.bool g) ∧ Upd noBlock W w'))
    (HD : Hid (g = true → ∀ W : World, Tab W → Calls Tryd.prog 15 #[.string q2, .int .i64 1] W fun e w' => e = .returned (.tuple #[.agg #[.int .i64 s0, .bool f0, .bool f1, .string qa, .string qb], .int .i64 ((ls : Int) + 1), .int .i64 0]) ∧ Upd noBlock W w'))
    (hz : qs.size = ls) (hb : ls ≤ 1000) (hz1 : q1.size = ls + 1) (e1 : (⟨#[120]⟩ : ByteArray) ++ qs = q1) (e2 : q1 ++ (⟨#[121]⟩ : ByteArray) = q2)
    (heq : ∀ W : World, (binOp .eql 26 (.agg #[.int .i64 s0, .bool f0, .bool f1, .string qa, .string qb]) (.agg #[.int .i64 s0, .bool f0, .bool f1, .string qa, .string qb])).run Tryd.prog W = .ok (.bool true) W) :
    Calls Tryd.prog 3 #[.int .i64 s0, .agg #[.bool f0, .bool f1], .agg #[.string qa, .string qb]] w fun e w' => e = .returned (.bool true) ∧ Upd noBlock w w' := by
  have HU : Hid (Upd noBlock w ((w.alloc (.cells #[.bool f0, .bool f1] 22)).alloc (.cells #[.string qa, .string qb] 23))) := ((Upd.refl _ _).alloc _).alloc _
  have HF0 := Lib.hid (fun W h => box2_facts w W #[.bool f0, .bool f1] #[.string qa, .string qb] 22 23 h)
  have HS := Lib.hid (fun W hW => speaks_any W hW)
  have z1 : (⟨#[120]⟩ : ByteArray).size = 1 := rfl
  have z2 : (⟨#[121]⟩ : ByteArray).size = 1 := rfl
  cases g with
  | false =>
    clear HD
    go_enter Tryd.func3, Tryd.ntmps3
    go_wp2_with (first
      | (go_at_call 11; (with_reducible refine (HS.out _ (HT.out _ HU.out)).mono ?_); rintro e w1 ⟨rfl, h⟩; have HX := Lib.hid (HU.out.trans h); obtain ⟨x1, x2⟩ := HF0.out _ h; have y1 := fun O => (HF0.out _ (h.alloc O)).1; have y2 := fun O => (HF0.out _ (h.alloc O)).2; clear h)
      | (go_at_call 12; (with_reducible refine (HE.out _ (HT.out _ ((HX.out.alloc _).alloc _))).mono ?_); rintro e w2 ⟨rfl, h⟩; obtain ⟨f1', f2'⟩ := box2_facts _ _ _ _ _ _ h; have HY := Lib.hid h; have HZ := Lib.hid (((HX.out.alloc _).alloc _).trans h); clear h)
      | (go_at_call 13; (with_reducible refine (HR.out _).mono ?_); rintro e w3 ⟨rfl, h⟩; obtain ⟨f3', f4'⟩ := box2_facts _ _ _ _ _ _ (HY.out.trans h); have HV := Lib.hid (HZ.out.trans h); clear h)
      | (go_at_call 14; (with_reducible refine (HG.out _).mono ?_); rintro e w4 ⟨rfl, h⟩; have HQ := Lib.hid (HV.out.trans h); clear h))
    go_ret
    exact ⟨rfl, HQ.out⟩
  | true =>
    have HD2 := Lib.hid (HD.out rfl)
    clear HD
    go_enter Tryd.func3, Tryd.ntmps3
    go_wp2_with (first
      | (go_at_call 11; (with_reducible refine (HS.out _ (HT.out _ HU.out)).mono ?_); rintro e w1 ⟨rfl, h⟩; have HX := Lib.hid (HU.out.trans h); obtain ⟨x1, x2⟩ := HF0.out _ h; have y1 := fun O => (HF0.out _ (h.alloc O)).1; have y2 := fun O => (HF0.out _ (h.alloc O)).2; clear h)
      | (go_at_call 12; (with_reducible refine (HE.out _ (HT.out _ ((HX.out.alloc _).alloc _))).mono ?_); rintro e w2 ⟨rfl, h⟩; obtain ⟨f1', f2'⟩ := box2_facts _ _ _ _ _ _ h; have HY := Lib.hid h; have HZ := Lib.hid (((HX.out.alloc _).alloc _).trans h); clear h)
      | (go_at_call 13; (with_reducible refine (HR.out _).mono ?_); rintro e w3 ⟨rfl, h⟩; obtain ⟨f3', f4'⟩ := box2_facts _ _ _ _ _ _ (HY.out.trans h); have HY3 := Lib.hid (HY.out.trans h); have HV := Lib.hid (HZ.out.trans h); clear h)
      | (go_at_call 14; (with_reducible refine (HG.out _).mono ?_); rintro e w4 ⟨rfl, h⟩; obtain ⟨f5', f6'⟩ := box2_facts _ _ _ _ _ _ (HY3.out.trans h); have HY4 := Lib.hid (HY3.out.trans h); have HQ := Lib.hid (HV.out.trans h); clear h)
      | (go_at_call 15; (with_reducible refine (HD2.out _ (HT.out _ HQ.out)).mono ?_); rintro e w5 ⟨rfl, h⟩; obtain ⟨f7', f8'⟩ := box2_facts _ _ _ _ _ _ (HY4.out.trans h); have f9' := fun O => (box2_facts _ _ _ _ _ _ ((HY4.out.trans h).alloc O)).1; have HP := Lib.hid (HQ.out.trans h); clear h))
    go_ret
    exact ⟨rfl, HP.out.alloc _⟩
theorem nodeEncodes_upd (s0 : Int) (f0 f1 : Bool) (qa qb : ByteArray) (w : World) (ha : qa.size ≤ 140737488351232) (hb : qb.size ≤ 140737488351232) (hT : Tab w) :
    Calls Tryd.prog 3 #[.int .i64 s0, .agg #[.bool f0, .bool f1], .agg #[.string qa, .string qb]] w fun e w' => e = .returned (.bool true) ∧ Upd noBlock w w' := by
  obtain ⟨k, rfl⟩ : ∃ l : List UInt8, qa = ⟨l.toArray⟩ := ⟨qa.data.toList, rfl⟩
  obtain ⟨v, rfl⟩ : ∃ l : List UInt8, qb = ⟨l.toArray⟩ := ⟨qb.data.toList, rfl⟩
  have ha' : k.length ≤ maxLen := Nat.le_trans ha (by decide)
  have hb' : v.length ≤ maxLen := Nat.le_trans hb (by decide)
  have HT : Hid (∀ W, Upd noBlock w W → Tab W) := fun W h => hT.upd h
  have heq := fun W => (eq_node s0 s0 f0 f0 f1 f1 ⟨k.toArray⟩ ⟨v.toArray⟩ ⟨k.toArray⟩ ⟨v.toArray⟩ true (by simp) W).1
  have hlen : (encN s0 f0 f1 k v).length ≤ 1000 := by
    unfold encN
    cases hg : goodN s0 f0 k v with
    | false => rw [if_neg (by decide)]; exact Nat.zero_le _
    | true =>
      obtain ⟨_, p2, p3, p4⟩ := goodN_parts hg
      rw [if_pos rfl, sealed_length, raw_length]; omega
  refine enc_walk w s0 f0 f1 _ _ ⟨(encN s0 f0 f1 k v).toArray⟩ ⟨([120] ++ encN s0 f0 f1 k v).toArray⟩ ⟨([120] ++ encN s0 f0 f1 k v ++ [121]).toArray⟩ (goodN s0 f0 k v) (encN s0 f0 f1 k v).length HT
    (fun W hW => encodeN_any s0 f0 f1 k v W ha' hb' hW) (fun W => refEncodeN_any s0 f0 f1 k v W ha' hb') (fun W => refGoodN_any s0 f0 f1 k v W ha' hb') (fun hg W hW => ?_) rfl hlen (by show ([120] ++ encN s0 f0 f1 k v).length = _; rw [List.length_append]; exact Nat.add_comm _ _) (cat_bytes [120] _) (cat_bytes _ [121]) heq
  have h := Decode_enc [120] [121] s0 f0 f1 k v W hg (by decide) hW
  have he : encN s0 f0 f1 k v = sealed (rawN s0 f0 f1 k v) := by unfold encN; rw [hg, if_pos rfl]
  rw [he, List.append_assoc]
  rw [show ((([120] : List UInt8).length : Nat) : Int) + ((sealed (rawN s0 f0 f1 k v)).length : Int) = ((sealed (rawN s0 f0 f1 k v)).length : Int) + 1 from Int.add_comm _ _] at h
  exact h
theorem nodeEncodes_walk (s0 : Int) (f0 f1 : Bool) (qa qb : ByteArray) (w : World) (_ : (Lit.int .i64 s0).wf = true) (ha : qa.size ≤ 140737488351232) (hb : qb.size ≤ 140737488351232) (hT : Tab w) :
    Calls Tryd.prog 3 #[.int .i64 s0, .agg #[.bool f0, .bool f1], .agg #[.string qa, .string qb]] w fun e w' => e = .returned (.bool true) ∧ Below w.heap.size w w' :=
  Calls.mono (nodeEncodes_upd s0 f0 f1 qa qb w ha hb hT) fun _ _ (h : _ ∧ Upd noBlock w _) => ⟨h.1, h.2.below (fun _ _ h => h)⟩
end Go.Proofs.YthlheamnfjjamaaDoor
