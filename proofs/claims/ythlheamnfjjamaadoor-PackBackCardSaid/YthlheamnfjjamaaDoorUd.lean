/- pack.Unpack, walked. -/
import Derived.Test.YthlheamnfjjamaaDoorUc
import Derived.Laws.OwnMore
namespace Go.Proofs.YthlheamnfjjamaaDoor
open Go.RowKit Cm
attribute [local irreducible] beZ valN Cm.shs Cm.nxt Cm.reg Cm.ext
attribute [local go_sem ↓] Go.wp_at_zero Go.wp_at_succ
set_option linter.unusedVariables false

theorem ju_mk {w wr : World} {l : List UInt8} {q : ByteArray} {R : List Value × List Int × Int} {po : Nat} {y5 y6 : Value} {No : List Value} {Ao : List Int} (x1 x8 x9 x10 x11 x12 x13 x14 x15 x16 x17 x18 x19 x20 x21 x22 x23 x24 x25 x26 x27 x28 x29 x30 x31 x32 x33 x34 : Value) (HJ : Hid (JU w wr l R po y5 y6 No Ao)) :
    ∃ (p : Nat) (v5 v6 : Value) (N : List Value) (A : List Int) (u : Nat → Value), ({ tmps := #[.string q, x1, .slice none 0 0, .slice none 0 0, .int .i64 0, y5, y6, .int .i64 (po : Int), x8, x9, x10, x11, x12, x13, x14, x15, x16, x17, x18, x19, x20, x21, x22, x23, x24, x25, x26, x27, x28, x29, x30, x31, x32, x33, x34], defers := [] } : Act) = { tmps := #[.string q, u 1, .slice none 0 0, .slice none 0 0, .int .i64 0, v5, v6, .int .i64 (p : Int), u 8, u 9, u 10, u 11, u 12, u 13, u 14, u 15, u 16, u 17, u 18, u 19, u 20, u 21, u 22, u 23, u 24, u 25, u 26, u 27, u 28, u 29, u 30, u 31, u 32, u 33, u 34], defers := [] } ∧ Hid (JU w wr l R p v5 v6 N A) :=
  ⟨po, y5, y6, No, Ao, fun i => match i with | 1 => x1 | 8 => x8 | 9 => x9 | 10 => x10 | 11 => x11 | 12 => x12 | 13 => x13 | 14 => x14 | 15 => x15 | 16 => x16 | 17 => x17 | 18 => x18 | 19 => x19 | 20 => x20 | 21 => x21 | 22 => x22 | 23 => x23 | 24 => x24 | 25 => x25 | 26 => x26 | 27 => x27 | 28 => x28 | 29 => x29 | 30 => x30 | 31 => x31 | 32 => x32 | 33 => x33 | 34 => x34 | _ => undef, rfl, HJ⟩
theorem nodeParts : ∃ i0 z, Tryd.prog.info? 26 = some i0 ∧ i0.zero = some z ∧ i0.size = 5 ∧ i0.bytes = 48 ∧ z.cells.size = 5 := by
  have h : (Tryd.prog.info? 26).map (fun i => (i.zero.map (fun z => z.cells.size), i.size, i.bytes)) = some (some 5, 5, 48) := by kernel_rfl
  obtain ⟨i0, h1, h2⟩ := Option.map_eq_some_iff.1 h
  simp only [Prod.mk.injEq, Option.map_eq_some_iff] at h2
  obtain ⟨⟨z, hz, hz5⟩, h3, h4⟩ := h2
  exact ⟨i0, z, h1, hz, h3, h4, hz5⟩
theorem intPartsU : ∃ i0, Tryd.prog.info? 3 = some i0 ∧ i0.zero = some (.int .i64 0) ∧ i0.size = 1 ∧ i0.bytes = 8 := by
  have h : (Tryd.prog.info? 3).map (fun i => (i.zero, i.size, i.bytes)) = some (some (.int .i64 0), 1, 8) := by kernel_rfl
  obtain ⟨i0, h1, h2⟩ := Option.map_eq_some_iff.1 h
  simp only [Prod.mk.injEq] at h2
  exact ⟨i0, h1, h2.1, h2.2.1, h2.2.2⟩
theorem five_at {W0 W : World} {a b c d e : Value} {t : TypeId} (h : Upd noBlock (W0.alloc (.cells #[a, b, c, d, e] t)) W) : ∀ j u, [a, b, c, d, e][j]? = some u → W.cell? ((⟨W0.heap.size, 0, none⟩ : Addr).add j) = some u := fun j u hu => by
  rw [add_zero_addr, cell_of (h.cells (heap_alloc_new W0 _) (fun h => h)) j, ← hu]
  simp
theorem one_at {W0 : World} {a : Value} {t : TypeId} : ∀ j u, [a][j]? = some u → (W0.alloc (.cells #[a] t)).cell? ((⟨W0.heap.size, 0, none⟩ : Addr).add j) = some u := fun j u hu => by
  rw [add_zero_addr, cell_of (heap_alloc_new W0 _) j, ← hu]
  simp
theorem decP_form5 (l : List UInt8) (a : Int) : ∃ (n : Int) (g b : Bool) (qk qv : ByteArray), (decP l a).1 = .agg #[.int .i64 n, .bool g, .bool b, .string qk, .string qv] := by
  have hz : ∀ (n : Int) (g b : Bool) (k v : List UInt8), ∃ (n' : Int) (g' b' : Bool) (qk qv : ByteArray), nodeV n g b k v = .agg #[.int .i64 n', .bool g', .bool b', .string qk, .string qv] := fun n g b k v => ⟨_, _, _, _, _, rfl⟩
  unfold decP
  by_cases h : a < 0 ∨ (l.length : Int) < a
  · rw [if_pos h]; exact hz _ _ _ _ _
  rw [if_neg h]
  show ∃ _ _ _ _ _, (decR (l.drop a.toNat)).1 = _
  by_cases h0 : (decR (l.drop a.toNat)).2.2 = 0
  · obtain ⟨_, _, n, g, b, k, v, e⟩ := decR_len _ h0
    rw [e]; exact hz _ _ _ _ _
  · have : (decR (l.drop a.toNat)).1 = zeroV := by
      revert h0
      unfold decR
      repeat' split
      all_goals first | (intro _; rfl) | (intro h; exact absurd rfl h)
    rw [this]; exact hz _ _ _ _ _
set_option maxRecDepth 20000 in
set_option maxHeartbeats 3200000 in
theorem unpackP_any (l : List UInt8) (w : World) (hl : l.length ≤ 1099511627776) (hT : Tab w) :
    Calls Tryd.prog 28 #[.string ⟨l.toArray⟩] w fun e w' => ∃ v5 v6, e = .returned (.tuple #[v5, v6, .int .i64 (unpW l (l.length + 1) 0 [] []).2.2]) ∧ w'.ownsRow w.heap.size 26 5 v5 (unpW l (l.length + 1) 0 [] []).1.length (nodesC (unpW l (l.length + 1) 0 [] []).1) ∧
      w'.ownsRow w.heap.size 3 1 v6 (unpW l (l.length + 1) 0 [] []).2.1.length ((unpW l (l.length + 1) 0 [] []).2.1.map (Value.int .i64)) ∧ Upd noBlock w w' := by
  obtain ⟨i0, z0, hi0, hz0, hz1, hz2, hz3⟩ := nodeParts
  obtain ⟨i1, hi1, hy0, hy1, hy2⟩ := intPartsU
  obtain ⟨R, hR⟩ : ∃ R, unpW l (l.length + 1) 0 [] [] = R := ⟨_, rfl⟩
  rw [hR]
  have HD := Lib.hid (fun (p : Nat) W hW => decode_any l (p : Int) W (by omega) hW)
  have HOK := Lib.hid (decP_ok l)
  have H0 : Hid (JU w w l R 0 (.slice none 0 0) (.slice none 0 0) [] []) := ⟨⟨l.length + 1, by omega, hR⟩, World.ownsRow_nil _ _ _ _, World.ownsRow_nil _ _ _ _, ⟨Nat.le_refl _, Nat.le_refl _⟩, Nat.zero_le _, Upd.refl _ _⟩
  have HT : Hid (∀ W, Upd noBlock w W → Tab W) := fun W h => hT.upd h
  obtain ⟨q, hq⟩ : ∃ q : ByteArray, ⟨l.toArray⟩ = q := ⟨_, rfl⟩
  rw [hq] at HD ⊢
  have HL := Lib.hid hl
  clear hR hT hq
  go_enter Tryd.func28, Tryd.ntmps28
  go_wp2
  refine scope_jumps_two 0 (fun a' wr => ∃ (p : Nat) (v5 v6 : Value) (N : List Value) (A : List Int) (u : Nat → Value), a' = { tmps := #[.string q, u 1, .slice none 0 0, .slice none 0 0, .int .i64 0, v5, v6, .int .i64 (p : Int), u 8, u 9, u 10, u 11, u 12, u 13, u 14, u 15, u 16, u 17, u 18, u 19, u 20, u 21, u 22, u 23, u 24, u 25, u 26, u 27, u 28, u 29, u 30, u 31, u 32, u 33, u 34], defers := [] } ∧ Hid (JU w wr l R p v5 v6 N A)) (fun a' _ => l.length - (intOf (a'.tmps.getD 7 undef)).toNat) rfl ?_ ?_
  · rintro a' wr ⟨p, v5, v6, N, A, u, rfl, HJ⟩
    clear H0
    have hdec := HD.out p
    by_cases h0 : (decP l (p : Int)).2.2 = 0
    · obtain ⟨p', e1, e2, e3, n, g, b, k, v, e4⟩ := HOK.out p h0
      have hJ := HJ.out
      obtain ⟨f, hf1, hf2⟩ := hJ.run
      have hrun : ∃ f', l.length < f' + p' ∧ unpW l f' (p' : Int) (N ++ [nodeV n g b k v]) (A ++ [(p : Int)]) = R := by
        cases f with
        | zero => have := hJ.le; omega
        | succ f =>
          refine ⟨f, by omega, ?_⟩
          rw [unpW, if_pos h0, e1, e4] at hf2
          exact hf2
      rw [h0, e1, e4] at hdec
      have hp := hJ.le
      have hcN := hJ.cnt.1
      have hcA := hJ.cnt.2
      obtain ⟨cs, hcs⟩ : ∃ cs : List Value, cs = [.int .i64 n, .bool g, .bool b, .string ⟨k.toArray⟩, .string ⟨v.toArray⟩] := ⟨_, rfl⟩
      have HRUN := Lib.hid hrun
      have HNf : Hid (∀ W, Upd noBlock wr W → W.ownsRow w.heap.size 26 5 v5 N.length (nodesC N)) := fun W h => own_grow hJ.nodes h
      have HAf : Hid (∀ W, Upd noBlock wr W → W.ownsRow w.heap.size 3 1 v6 A.length (A.map (Value.int .i64))) := fun W h => own_grow hJ.places h
      have HUf : Hid (Upd noBlock w wr) := hJ.up
      have hsn : nodesC (N ++ [nodeV n g b k v]) = nodesC N ++ cellsN (nodeV n g b k v) := nodesC_snoc _ _
      rw [cellsN_node] at hsn
      have HSN := Lib.hid hsn
      have HB1 : Hid (N.length + 1 ≤ maxLen ∧ (N.length + 1) * 48 ≤ 140737488355328 ∧ A.length + 1 ≤ maxLen ∧ (A.length + 1) * 8 ≤ 140737488355328) := by
        have := HL.out
        show _ ∧ _ ∧ _ ∧ _
        unfold maxLen; omega
      unfold nodeV at hdec
      obtain ⟨qk, hqk⟩ : ∃ q : ByteArray, ⟨k.toArray⟩ = q := ⟨_, rfl⟩
      obtain ⟨qv, hqv⟩ : ∃ q : ByteArray, ⟨v.toArray⟩ = q := ⟨_, rfl⟩
      rw [hqk, hqv] at hdec HSN
      have HDC := Lib.hid hdec
      have hlp : l.length - p' < l.length - p := by omega
      have HLP := Lib.hid hlp
      have HP3 := Lib.hid e3
      have HP2 : Hid (N.length + 1 ≤ p' ∧ A.length + 1 ≤ p') := by show _ ∧ _; omega
      have HF2 : Hid (∀ w1 : World, ∀ X : Obj, ∀ j u, [Value.int .i64 n, .bool g, .bool b, .string qk, .string qv][j]? = some u → ((w1.alloc X).alloc (.cells #[.int .i64 n, .bool g, .bool b, .string qk, .string qv] 26)).cell? ((⟨w1.heap.size + 1, 0, none⟩ : Addr).add j) = some u) := fun w1 X j u hu => by
        have h9 := five_at (W0 := w1.alloc X) (t := 26) (Upd.refl noBlock _) j u hu
        rw [World.size_alloc] at h9
        exact h9
      have HF1 : Hid (∀ w2 : World, ∀ j u, [Value.int .i64 (p : Int)][j]? = some u → (w2.alloc (.cells #[.int .i64 (p : Int)] 3)).cell? ((⟨w2.heap.size, 0, none⟩ : Addr).add j) = some u) := fun w2 j u hu => one_at j u hu
      have hone : ∀ u ∈ [Value.int .i64 n, .bool g, .bool b, .string qk, .string qv], u.oneCell' = true := by
        intro u hu
        simp only [List.mem_cons, List.not_mem_nil, or_false] at hu
        rcases hu with rfl | rfl | rfl | rfl | rfl <;> rfl
      have HO5 := Lib.hid hone
      have hone1 : ∀ u ∈ [Value.int .i64 (p : Int)], u.oneCell' = true := by
        intro u hu
        simp only [List.mem_cons, List.not_mem_nil, or_false] at hu
        subst hu; rfl
      have HO1 := Lib.hid hone1
      have HBz : Hid (∀ w1 : World, Upd noBlock wr w1 → w.heap.size ≤ w1.heap.size) := fun w1 h => Nat.le_trans HUf.out.size h.size
      have HM2 : Hid (∀ w1 w2 : World, ∀ v', Upd noBlock wr w1 → w1.grownBy w2 v5.ownBlock → w2.ownsRow w.heap.size 26 5 v' (N.length + 1) (nodesC N ++ [.int .i64 n, .bool g, .bool b, .string qk, .string qv]) →
          (∀ W, Upd noBlock w2 W → W.ownsRow w.heap.size 3 1 v6 A.length (A.map (Value.int .i64))) ∧ (∀ W, Upd noBlock w2 W → W.ownsRow w.heap.size 26 5 v' (N.length + 1) (nodesC N ++ [.int .i64 n, .bool g, .bool b, .string qk, .string qv])) ∧ Upd noBlock w w2) := fun w1 w2 v' hu hg ho =>
        ⟨fun W h => own_grow (own_other (HAf.out w1 hu) (HNf.out w1 hu) (by decide) hg) h, fun W h => own_grow ho h, upd_of_grown (HUf.out.trans hu) hg (fun k hk => .inr (own_base (HNf.out w1 hu) k hk).1)⟩
      have HM3 : Hid (∀ w2 w3 : World, ∀ v' v'', w.heap.size ≤ w2.heap.size → Upd noBlock w w2 → w2.ownsRow w.heap.size 3 1 v6 A.length (A.map (Value.int .i64)) → w2.ownsRow w.heap.size 26 5 v' (N.length + 1) (nodesC N ++ [.int .i64 n, .bool g, .bool b, .string qk, .string qv]) → w2.grownBy w3 v6.ownBlock →
          w3.ownsRow w.heap.size 3 1 v'' (A.length + 1) (A.map (Value.int .i64) ++ [.int .i64 (p : Int)]) → Hid (JU w w3 l R p' v' v'' (N ++ [nodeV n g b k v]) (A ++ [(p : Int)]))) := fun w2 w3 v' v'' hs hu ha hn hg ho =>
        ⟨HRUN.out, by rw [List.length_append, List.length_singleton, HSN.out]; exact own_other hn ha (by decide) hg, by rw [List.length_append, List.length_singleton, List.map_append]; exact ho, by rw [List.length_append, List.length_append]; exact HP2.out, HP3.out, upd_of_grown hu hg (fun k hk => .inr (own_base ha k hk).1)⟩
      clear hJ hf1 hf2 hrun hdec HJ e1 e2 e3 e4 h0 hp hcN hcA hsn hcs hqk hqv hlp
      go_wp2_with (first
        | (go_at_call 15; (with_reducible refine (HDC.out _ (HT.out _ HUf.out)).mono ?_); rintro e w1 ⟨rfl, h⟩; have HX := Lib.hid h; clear h)
        | (at_builtin; refine wpList_append_own _ rfl (.tmp 21) (.tmp 23) 63 rfl w.heap.size 26 i0 z0 5 48 Tryd.underlying63 hi0 hz0 hz1 hz2 hz3 (by decide) v5 N.length (nodesC N) rfl (HNf.out _ ((HX.out.alloc _).alloc _)) ⟨w1.heap.size + 1, 0, none⟩ 1 1 [.int .i64 n, .bool g, .bool b, .string qk, .string qv] rfl rfl (HF2.out _ _) HO5.out HB1.out.1 HB1.out.2.1 (HBz.out _ ((HX.out.alloc _).alloc _)) ?_; intro v' w2 hO hg _; obtain ⟨m1, m2, m3⟩ := HM2.out _ _ _ ((HX.out.alloc _).alloc _) hg hO; have M1 := Lib.hid m1; have M2 := Lib.hid m2; have M3 := Lib.hid m3; clear m1 m2 m3 hO hg)
        | (at_builtin; refine wpList_append_own _ rfl (.tmp 25) (.tmp 27) 64 rfl w.heap.size 3 i1 (.int .i64 0) 1 8 Tryd.underlying64 hi1 hy0 hy1 hy2 rfl (by decide) v6 A.length (A.map (Value.int .i64)) rfl (M1.out _ ((Upd.refl _ _).alloc _)) ⟨w2.heap.size, 0, none⟩ 1 1 [.int .i64 (p : Int)] rfl rfl (HF1.out _) HO1.out HB1.out.2.2.1 HB1.out.2.2.2 (M3.out.alloc _).size ?_; intro v'' w3 hO hg _; have HJ3 := HM3.out _ _ _ _ (M3.out.alloc _).size (M3.out.alloc _) (M1.out _ ((Upd.refl _ _).alloc _)) (M2.out _ ((Upd.refl _ _).alloc _)) hg hO; clear hO hg))
      go_step3
      exact ⟨rfl, ju_mk _ _ _ _ _ _ _ _ _ _ _ _ _ _ _ _ _ _ _ _ _ _ _ _ _ _ _ _ HJ3, HLP.out⟩
    · have hJ := HJ.out
      obtain ⟨f, hf1, hf2⟩ := hJ.run
      have HUf : Hid (Upd noBlock w wr) := hJ.up
      by_cases h3 : (decP l (p : Int)).2.2 = 3
      · have hRR : R = (N, A, 0) := by
          cases f with
          | zero => have := hJ.le; omega
          | succ f => rw [unpW, if_neg h0, if_pos h3] at hf2; exact hf2.symm
        rw [h3] at hdec
        subst hRR
        have HDC := Lib.hid hdec
        have HNf : Hid (∀ W, Upd noBlock wr W → W.ownsRow w.heap.size 26 5 v5 N.length (nodesC N)) := fun W h => own_grow hJ.nodes h
        have HAf : Hid (∀ W, Upd noBlock wr W → W.ownsRow w.heap.size 3 1 v6 A.length (A.map (Value.int .i64))) := fun W h => own_grow hJ.places h
        obtain ⟨x1, x2, x3, x4, x5, hf5⟩ := decP_form5 l (p : Int)
        rw [hf5] at HDC
        clear hJ hf1 hf2 hdec HJ h0 h3 hf5
        go_wp2_with (go_at_call 15; (with_reducible refine (HDC.out _ (HT.out _ HUf.out)).mono ?_); rintro e w1 ⟨rfl, h⟩; have HX := Lib.hid h; clear h)
        simp only [Exit.jump]
        go_ret3
        exact ⟨_, _, rfl, HNf.out _ (HX.out.alloc _), HAf.out _ (HX.out.alloc _), HUf.out.trans (HX.out.alloc _)⟩
      · obtain ⟨er, her⟩ : ∃ er, (decP l (p : Int)).2.2 = er := ⟨_, rfl⟩
        have hRR : R = ([], [], er) := by
          cases f with
          | zero => have := hJ.le; omega
          | succ f => rw [unpW, if_neg h0, if_neg h3, her] at hf2; exact hf2.symm
        rw [her] at hdec h0 h3
        subst hRR
        have HDC := Lib.hid hdec
        obtain ⟨x1, x2, x3, x4, x5, hf5⟩ := decP_form5 l (p : Int)
        rw [hf5] at HDC
        have e0 : (er == 0) = false := beq_eq_false_iff_ne.2 h0
        have e3 : (er == 3) = false := beq_eq_false_iff_ne.2 h3
        clear hJ hf1 hf2 hdec HJ h0 h3 hf5 her
        go_wp2_with (go_at_call 15; (with_reducible refine (HDC.out _ (HT.out _ HUf.out)).mono ?_); rintro e w1 ⟨rfl, h⟩; have HX := Lib.hid h; clear h)
        simp only [Exit.jump]
        go_ret3
        exact ⟨_, _, rfl, World.ownsRow_nil _ _ _ _, World.ownsRow_nil _ _ _ _, HUf.out.trans (HX.out.alloc _)⟩
  · intro pass
    go_wp2
    go_step3
    rename_i K Q' hK
    exact hK _ _ (pass _ _ ⟨0, .slice none 0 0, .slice none 0 0, [], [], fun _ => undef, rfl, H0⟩)
end Go.Proofs.YthlheamnfjjamaaDoor
