/- The document's Unpack. -/
import Derived.Test.YthlheamnfjjamaaDoorUd
import Derived.Test.YthlheamnfjjamaaDoorOw
namespace Go.Proofs.YthlheamnfjjamaaDoor
open Go.RowKit Cm
attribute [local irreducible] beZ valN Cm.shs Cm.nxt Cm.reg Cm.ext
attribute [local go_sem ↓] Go.wp_at_zero Go.wp_at_succ
set_option linter.unusedVariables false

/-- what holds at the loop's head -/
structure JR (w wr : World) (l : List UInt8) (R : List Value × List Int × Int) (p : Nat) (v5 v6 : Value) (N : List Value) (A : List Int) : Prop where
  run : ∃ f, l.length < f + p ∧ unpW l f (p : Int) N A = R
  nodes : wr.ownsRow w.heap.size 27 5 v5 N.length (nodesC N)
  places : wr.ownsRow w.heap.size 3 1 v6 A.length (A.map (Value.int .i64))
  cnt : N.length ≤ p ∧ A.length ≤ p
  le : p ≤ l.length
  up : Upd noBlock w wr
theorem nodePartsR : ∃ i0 z, Tryd.prog.info? 27 = some i0 ∧ i0.zero = some z ∧ i0.size = 5 ∧ i0.bytes = 48 ∧ z.cells.size = 5 := by
  have h : (Tryd.prog.info? 27).map (fun i => (i.zero.map (fun z => z.cells.size), i.size, i.bytes)) = some (some 5, 5, 48) := by kernel_rfl
  obtain ⟨i0, h1, h2⟩ := Option.map_eq_some_iff.1 h
  simp only [Prod.mk.injEq, Option.map_eq_some_iff] at h2
  obtain ⟨⟨z, hz, hz5⟩, h3, h4⟩ := h2
  exact ⟨i0, z, h1, hz, h3, h4, hz5⟩
set_option maxRecDepth 20000 in
set_option maxHeartbeats 3200000 in
theorem refUnpack12_any (l : List UInt8) (w : World) (hl : l.length ≤ 1099511627776) :
    Calls Tryd.prog 29 #[.string ⟨l.toArray⟩] w fun e w' => ∃ v5 v6, e = .returned (.tuple #[v5, v6, .int .i64 (unpW l (l.length + 1) 0 [] []).2.2]) ∧ w'.ownsRow w.heap.size 27 5 v5 (unpW l (l.length + 1) 0 [] []).1.length (nodesC (unpW l (l.length + 1) 0 [] []).1) ∧
      w'.ownsRow w.heap.size 3 1 v6 (unpW l (l.length + 1) 0 [] []).2.1.length ((unpW l (l.length + 1) 0 [] []).2.1.map (Value.int .i64)) ∧ Upd noBlock w w' := by
  obtain ⟨i0, z0, hi0, hz0, hz1, hz2, hz3⟩ := nodePartsR
  obtain ⟨i1, hi1, hy0, hy1, hy2⟩ := intPartsU
  obtain ⟨R, hR⟩ : ∃ R, unpW l (l.length + 1) 0 [] [] = R := ⟨_, rfl⟩
  rw [hR]
  have HD := Lib.hid (fun (p : Nat) W => refDecode_any l (p : Int) W (by omega))
  have HOK := Lib.hid (decP_ok l)
  have H0 : Hid (JR w w l R 0 (.slice none 0 0) (.slice none 0 0) [] []) := ⟨⟨l.length + 1, by omega, hR⟩, World.ownsRow_nil _ _ _ _, World.ownsRow_nil _ _ _ _, ⟨Nat.le_refl _, Nat.le_refl _⟩, Nat.zero_le _, Upd.refl _ _⟩
  obtain ⟨q, hq⟩ : ∃ q : ByteArray, ⟨l.toArray⟩ = q := ⟨_, rfl⟩
  rw [hq] at HD ⊢
  have HL := Lib.hid hl
  clear hR hq
  go_enter Tryd.func29, Tryd.ntmps29
  go_wp2
  go_loopw [5, 6, 7] (fun x5 x6 vp wr => ∃ (p : Nat) (v5 v6 : Value) (N : List Value) (A : List Int), v5 = x5 ∧ v6 = x6 ∧ vp = .int .i64 (p : Int) ∧ Hid (JR w wr l R p v5 v6 N A)) (fun _ _ i _ => l.length - (intOf i).toNat)
  case atStart => exact ⟨0, _, _, [], [], rfl, rfl, rfl, H0⟩
  case round =>
    clear H0
    obtain ⟨p, v5, v6, N, A, rfl, rfl, rfl, HJ⟩ := hrel
    have hdec := HD.out p
    by_cases h0 : (decP l (p : Int)).2.2 = 0
    · obtain ⟨p', e1, e2, e3, n, g, b, k, v, e4⟩ := HOK.out p h0
      have hJ := HJ.out
      obtain ⟨f, hf1, hf2⟩ := hJ.run
      have hrun : ∃ f', l.length < f' + p' ∧ unpW l f' (p' : Int) (N ++ [nodeV n g b k v]) (A ++ [(p : Int)]) = R := by
        cases f with
        | zero => have := hJ.le; omega
        | succ f =>
          refine ⟨f, by omega, ?_⟩
          rw [unpW, if_pos h0, e1, e4] at hf2
          exact hf2
      rw [h0, e1, e4] at hdec
      have hp := hJ.le
      have hcN := hJ.cnt.1
      have hcA := hJ.cnt.2
      obtain ⟨cs, hcs⟩ : ∃ cs : List Value, cs = [.int .i64 n, .bool g, .bool b, .string ⟨k.toArray⟩, .string ⟨v.toArray⟩] := ⟨_, rfl⟩
      have HRUN := Lib.hid hrun
      have HNf : Hid (∀ W, Upd noBlock wr W → W.ownsRow w.heap.size 27 5 v5 N.length (nodesC N)) := fun W h => own_grow hJ.nodes h
      have HAf : Hid (∀ W, Upd noBlock wr W → W.ownsRow w.heap.size 3 1 v6 A.length (A.map (Value.int .i64))) := fun W h => own_grow hJ.places h
      have HUf : Hid (Upd noBlock w wr) := hJ.up
      have hsn : nodesC (N ++ [nodeV n g b k v]) = nodesC N ++ cellsN (nodeV n g b k v) := nodesC_snoc _ _
      rw [cellsN_node] at hsn
      have HSN := Lib.hid hsn
      have HB1 : Hid (N.length + 1 ≤ maxLen ∧ (N.length + 1) * 48 ≤ 140737488355328 ∧ A.length + 1 ≤ maxLen ∧ (A.length + 1) * 8 ≤ 140737488355328) := by
        have := HL.out
        show _ ∧ _ ∧ _ ∧ _
        unfold maxLen; omega
      unfold nodeV at hdec
      obtain ⟨qk, hqk⟩ : ∃ q : ByteArray, ⟨k.toArray⟩ = q := ⟨_, rfl⟩
      obtain ⟨qv, hqv⟩ : ∃ q : ByteArray, ⟨v.toArray⟩ = q := ⟨_, rfl⟩
      rw [hqk, hqv] at hdec HSN
      have HDC := Lib.hid hdec
      have hlp : l.length - p' < l.length - p := by omega
      have HLP := Lib.hid hlp
      have HP3 := Lib.hid e3
      have HP2 : Hid (N.length + 1 ≤ p' ∧ A.length + 1 ≤ p') := by show _ ∧ _; omega
      have HF2 : Hid (∀ w1 : World, ∀ X : Obj, ∀ j u, [Value.int .i64 n, .bool g, .bool b, .string qk, .string qv][j]? = some u → ((w1.alloc X).alloc (.cells #[.int .i64 n, .bool g, .bool b, .string qk, .string qv] 27)).cell? ((⟨w1.heap.size + 1, 0, none⟩ : Addr).add j) = some u) := fun w1 X j u hu => by
        have h9 := five_at (W0 := w1.alloc X) (t := 27) (Upd.refl noBlock _) j u hu
        rw [World.size_alloc] at h9
        exact h9
      have HF1 : Hid (∀ w2 : World, ∀ j u, [Value.int .i64 (p : Int)][j]? = some u → (w2.alloc (.cells #[.int .i64 (p : Int)] 3)).cell? ((⟨w2.heap.size, 0, none⟩ : Addr).add j) = some u) := fun w2 j u hu => one_at j u hu
      have hone : ∀ u ∈ [Value.int .i64 n, .bool g, .bool b, .string qk, .string qv], u.oneCell' = true := by
        intro u hu
        simp only [List.mem_cons, List.not_mem_nil, or_false] at hu
        rcases hu with rfl | rfl | rfl | rfl | rfl <;> rfl
      have HO5 := Lib.hid hone
      have hone1 : ∀ u ∈ [Value.int .i64 (p : Int)], u.oneCell' = true := by
        intro u hu
        simp only [List.mem_cons, List.not_mem_nil, or_false] at hu
        subst hu; rfl
      have HO1 := Lib.hid hone1
      have HBz : Hid (∀ w1 : World, Upd noBlock wr w1 → w.heap.size ≤ w1.heap.size) := fun w1 h => Nat.le_trans HUf.out.size h.size
      have HM2 : Hid (∀ w1 w2 : World, ∀ v', Upd noBlock wr w1 → w1.grownBy w2 v5.ownBlock → w2.ownsRow w.heap.size 27 5 v' (N.length + 1) (nodesC N ++ [.int .i64 n, .bool g, .bool b, .string qk, .string qv]) →
          (∀ W, Upd noBlock w2 W → W.ownsRow w.heap.size 3 1 v6 A.length (A.map (Value.int .i64))) ∧ (∀ W, Upd noBlock w2 W → W.ownsRow w.heap.size 27 5 v' (N.length + 1) (nodesC N ++ [.int .i64 n, .bool g, .bool b, .string qk, .string qv])) ∧ Upd noBlock w w2) := fun w1 w2 v' hu hg ho =>
        ⟨fun W h => own_grow (own_other (HAf.out w1 hu) (HNf.out w1 hu) (by decide) hg) h, fun W h => own_grow ho h, upd_of_grown (HUf.out.trans hu) hg (fun k hk => .inr (own_base (HNf.out w1 hu) k hk).1)⟩
      have HM3 : Hid (∀ w2 w3 : World, ∀ v' v'', w.heap.size ≤ w2.heap.size → Upd noBlock w w2 → w2.ownsRow w.heap.size 3 1 v6 A.length (A.map (Value.int .i64)) → w2.ownsRow w.heap.size 27 5 v' (N.length + 1) (nodesC N ++ [.int .i64 n, .bool g, .bool b, .string qk, .string qv]) → w2.grownBy w3 v6.ownBlock →
          w3.ownsRow w.heap.size 3 1 v'' (A.length + 1) (A.map (Value.int .i64) ++ [.int .i64 (p : Int)]) → Hid (JR w w3 l R p' v' v'' (N ++ [nodeV n g b k v]) (A ++ [(p : Int)]))) := fun w2 w3 v' v'' hs hu ha hn hg ho =>
        ⟨HRUN.out, by rw [List.length_append, List.length_singleton, HSN.out]; exact own_other hn ha (by decide) hg, by rw [List.length_append, List.length_singleton, List.map_append]; exact ho, by rw [List.length_append, List.length_append]; exact HP2.out, HP3.out, upd_of_grown hu hg (fun k hk => .inr (own_base ha k hk).1)⟩
      clear hJ hf1 hf2 hrun hdec HJ e1 e2 e3 e4 h0 hp hcN hcA hsn hcs hqk hqv hlp
      go_wp2_with (first
        | (go_at_call 16; (with_reducible refine (HDC.out _).mono ?_); rintro e w1 ⟨rfl, h⟩; have HX := Lib.hid h; clear h)
        | (at_builtin; refine wpList_append_own _ rfl (.tmp 25) (.tmp 27) 67 rfl w.heap.size 27 i0 z0 5 48 Tryd.underlying67 hi0 hz0 hz1 hz2 hz3 (by decide) v5 N.length (nodesC N) rfl (HNf.out _ ((HX.out.alloc _).alloc _)) ⟨w1.heap.size + 1, 0, none⟩ 1 1 [.int .i64 n, .bool g, .bool b, .string qk, .string qv] rfl rfl (HF2.out _ _) HO5.out HB1.out.1 HB1.out.2.1 (HBz.out _ ((HX.out.alloc _).alloc _)) ?_; intro v' w2 hO hg _; obtain ⟨m1, m2, m3⟩ := HM2.out _ _ _ ((HX.out.alloc _).alloc _) hg hO; have M1 := Lib.hid m1; have M2 := Lib.hid m2; have M3 := Lib.hid m3; clear m1 m2 m3 hO hg)
        | (at_builtin; refine wpList_append_own _ rfl (.tmp 29) (.tmp 31) 64 rfl w.heap.size 3 i1 (.int .i64 0) 1 8 Tryd.underlying64 hi1 hy0 hy1 hy2 rfl (by decide) v6 A.length (A.map (Value.int .i64)) rfl (M1.out _ ((Upd.refl _ _).alloc _)) ⟨w2.heap.size, 0, none⟩ 1 1 [.int .i64 (p : Int)] rfl rfl (HF1.out _) HO1.out HB1.out.2.2.1 HB1.out.2.2.2 (M3.out.alloc _).size ?_; intro v'' w3 hO hg _; have HJ3 := HM3.out _ _ _ _ (M3.out.alloc _).size (M3.out.alloc _) (M1.out _ ((Upd.refl _ _).alloc _)) (M2.out _ ((Upd.refl _ _).alloc _)) hg hO; clear hO hg))
      go_roundw
      case rel => exact ⟨p', _, _, _, _, rfl, rfl, rfl, HJ3⟩
      case measure => simp [intOf]; exact HLP.out
    · have hJ := HJ.out
      obtain ⟨f, hf1, hf2⟩ := hJ.run
      have HUf : Hid (Upd noBlock w wr) := hJ.up
      by_cases h3 : (decP l (p : Int)).2.2 = 3
      · have hRR : R = (N, A, 0) := by
          cases f with
          | zero => have := hJ.le; omega
          | succ f => rw [unpW, if_neg h0, if_pos h3] at hf2; exact hf2.symm
        rw [h3] at hdec
        subst hRR
        have HDC := Lib.hid hdec
        have HNf : Hid (∀ W, Upd noBlock wr W → W.ownsRow w.heap.size 27 5 v5 N.length (nodesC N)) := fun W h => own_grow hJ.nodes h
        have HAf : Hid (∀ W, Upd noBlock wr W → W.ownsRow w.heap.size 3 1 v6 A.length (A.map (Value.int .i64))) := fun W h => own_grow hJ.places h
        obtain ⟨x1, x2, x3, x4, x5, hf5⟩ := decP_form5 l (p : Int)
        rw [hf5] at HDC
        clear hJ hf1 hf2 hdec HJ h0 h3 hf5
        go_wp2_with (go_at_call 16; (with_reducible refine (HDC.out _).mono ?_); rintro e w1 ⟨rfl, h⟩; have HX := Lib.hid h; clear h)
        go_ret3
        exact ⟨_, _, rfl, HNf.out _ (HX.out.alloc _), HAf.out _ (HX.out.alloc _), HUf.out.trans (HX.out.alloc _)⟩
      · obtain ⟨er, her⟩ : ∃ er, (decP l (p : Int)).2.2 = er := ⟨_, rfl⟩
        have hRR : R = ([], [], er) := by
          cases f with
          | zero => have := hJ.le; omega
          | succ f => rw [unpW, if_neg h0, if_neg h3, her] at hf2; exact hf2.symm
        rw [her] at hdec h0 h3
        subst hRR
        have HDC := Lib.hid hdec
        obtain ⟨x1, x2, x3, x4, x5, hf5⟩ := decP_form5 l (p : Int)
        rw [hf5] at HDC
        have e0 : (er == 0) = false := beq_eq_false_iff_ne.2 h0
        have e3 : (er == 3) = false := beq_eq_false_iff_ne.2 h3
        clear hJ hf1 hf2 hdec HJ h0 h3 hf5 her
        go_wp2_with (go_at_call 16; (with_reducible refine (HDC.out _).mono ?_); rintro e w1 ⟨rfl, h⟩; have HX := Lib.hid h; clear h)
        go_ret3
        exact ⟨_, _, rfl, World.ownsRow_nil _ _ _ _, World.ownsRow_nil _ _ _ _, HUf.out.trans (HX.out.alloc _)⟩
end Go.Proofs.YthlheamnfjjamaaDoor
