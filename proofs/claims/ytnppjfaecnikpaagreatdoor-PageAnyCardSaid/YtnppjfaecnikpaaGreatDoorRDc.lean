/- Walk over the document's own least polynomial; Walk over the document's own least polynomial; The document's elimination: it finds the least relation. Plain; The document's least polynomial is the product over the roots. Plain; Same on lists that differ; what an append of a slice leaves; Walk over the document's own Generator. -/
import Derived.Test.YtnppjfaecnikpaaGreatDoorRDb
import Derived.Test.YtnppjfaecnikpaaGreatDoorRGPl
import Derived.Test.YtnppjfaecnikpaaGreatDoorRGHb
namespace Go.Proofs.YtnppjfaecnikpaaGreatDoor.Doc
open Go.RowKit Pm Gfm
attribute [local irreducible] Pm.exps

section
variable {P : Program} (w : World)
theorem run_slice_lo (t e : TypeId) (i : TypeInfo) (ht : P.underlying t = some (.slice e)) (hi : P.info? e = some i) (A : Option Addr) (n c k : Nat) (hk : k ≤ n) (hc : n ≤ c) :
    (Instr.sliceAt t (.slice A n c) none (some (.int .i64 k)) none).run P w = .ok (.slice (if c = 0 then A else A.map (·.add 0)) k c) w := by
  have h1 : (k : Int) ≤ (c : Int) := by omega
  simp [Instr.sliceAt, Instr.slice, run_underlying ht, Instr.sliceBounds, run_sliceBound, sizeOf, typeInfo, hi, h1]
theorem run_slice_hi (t e : TypeId) (i : TypeInfo) (ht : P.underlying t = some (.slice e)) (hi : P.info? e = some i) (hsize : i.size = 1) (A : Option Addr) (n c k : Nat) (hk : k ≤ n) :
    (Instr.sliceAt t (.slice A n c) (some (.int .i64 k)) none none).run P w = .ok (.slice (if c = k then A else A.map (·.add k)) (n - k) (c - k)) w := by
  have h1 : (k : Int) ≤ (n : Int) := by omega
  simp [Instr.sliceAt, Instr.slice, run_underlying ht, Instr.sliceBounds, run_sliceBound, sizeOf, typeInfo, hi, hsize, h1]
theorem ints_head {B n k c : Nat} {A : Option Addr} {xs : List Int} (h : Ints w B A n xs) (hk : k ≤ n) : Ints w B (if c = 0 then A else A.map (·.add 0)) k (xs.take k) := by
  refine ⟨by rw [List.length_take, h.1]; omega, fun h0 => ?_⟩
  obtain ⟨g, o, rfl, hg, hc⟩ := h.2 (by omega)
  refine ⟨g, o, by split <;> simp [Addr.add], hg, fun i hi => ?_⟩
  rw [hc i (by omega), List.getD_eq_getElem?_getD, List.getD_eq_getElem?_getD, List.getElem?_take, if_pos hi]
theorem ints_tail {B n k c : Nat} {A : Option Addr} {xs : List Int} (h : Ints w B A n xs) (hk : k ≤ n) (hc : n ≤ c) : Ints w B (if c = k then A else A.map (·.add k)) (n - k) (xs.drop k) := by
  refine ⟨by rw [List.length_drop, h.1], fun h0 => ?_⟩
  obtain ⟨g, o, rfl, hg, hcl⟩ := h.2 (by omega)
  refine ⟨g, o + k, by rw [if_neg (by omega)]; simp [Addr.add], hg, fun i hi => ?_⟩
  rw [Nat.add_assoc, hcl (k + i) (by omega), List.getD_eq_getElem?_getD, List.getD_eq_getElem?_getD, List.getElem?_drop]
theorem wpList_slice_lo {ops : Array Oper} {rest : List Oper} {o : Oper} {a : Act} {Q : Exit → Act → World → Prop} (hgd : o.guard = none) (s x : Operand) (t : TypeId)
    (ho : o.op = .slice t s none (some x) none) (e : TypeId) (i : TypeInfo) (ht : P.underlying t = some (.slice e)) (hi : P.info? e = some i)
    (B : Nat) (A : Option Addr) (n c k : Nat) (xs : List Int) (hs : a.eval s = .slice A n c) (hx : a.eval x = .int .i64 (k : Int)) (hr : Ints w B A n xs) (hk : k ≤ n) (hc : n ≤ c)
    (h : ∀ A' c', Ints w B A' k (xs.take k) → wpList P ops Q rest (a.put o.dst (.slice A' k c')) w) : wpList P ops Q (o :: rest) a w :=
  wpList_plain hgd fun K hK => by
    have hrun := run_slice_lo (P := P) w t e i ht hi A n c k hk hc
    unfold Oper.wp execOp
    simp only [ho, Sem.run_bind, Sem.run_pure, Result.andThen_ok, Option.map_some, Option.map_none, hs, hx, hrun]
    exact hK _ _ (h _ _ (ints_head w hr hk))
theorem wpList_slice_hi {ops : Array Oper} {rest : List Oper} {o : Oper} {a : Act} {Q : Exit → Act → World → Prop} (hgd : o.guard = none) (s x : Operand) (t : TypeId)
    (ho : o.op = .slice t s (some x) none none) (e : TypeId) (i : TypeInfo) (ht : P.underlying t = some (.slice e)) (hi : P.info? e = some i) (hsize : i.size = 1)
    (B : Nat) (A : Option Addr) (n c k : Nat) (xs : List Int) (hs : a.eval s = .slice A n c) (hx : a.eval x = .int .i64 (k : Int)) (hr : Ints w B A n xs) (hk : k ≤ n) (hc : n ≤ c)
    (h : ∀ A' c', Ints w B A' (n - k) (xs.drop k) → wpList P ops Q rest (a.put o.dst (.slice A' (n - k) c')) w) : wpList P ops Q (o :: rest) a w :=
  wpList_plain hgd fun K hK => by
    have hrun := run_slice_hi (P := P) w t e i ht hi hsize A n c k hk
    unfold Oper.wp execOp
    simp only [ho, Sem.run_bind, Sem.run_pure, Result.andThen_ok, Option.map_some, Option.map_none, hs, hx, hrun]
    exact hK _ _ (h _ _ (ints_tail w hr hk hc))
end

/-- a row of the call's own, opened -/
theorem own_slice {w : World} {base e n : Nat} {v : Value} {xs : List Int} (h : w.ownsRow base e 1 v n (vals xs)) :
    ∃ a c, v = .slice a n c ∧ Ints w w.heap.size a n xs ∧ n ≤ c := by
  obtain ⟨a, c, rfl, hi, _, _⟩ := own_ints h
  refine ⟨a, c, rfl, hi, ?_⟩
  obtain ⟨_, h⟩ := h
  rcases h with ⟨h, hn⟩ | ⟨g, cap, cur, h, hb, hg, hnc, hcm, hsz, htake⟩
  · have : n = 0 := by
      have := congrArg (fun v : Value => match v with | .slice _ n _ => n | _ => 0) h
      simpa using this
    omega
  · have : c = cap := by
      have := congrArg (fun v : Value => match v with | .slice _ _ c => c | _ => 0) h
      simpa using this
    omega
theorem own_upd {w w' : World} {base e n : Nat} {v : Value} {xs : List Value} (h : w.ownsRow base e 1 v n xs) (hu : Upd noBlock w w') : w'.ownsRow base e 1 v n xs := by
  obtain ⟨hl, h⟩ := h
  refine ⟨hl, ?_⟩
  rcases h with h | ⟨g, cap, cur, h, hb, hg, hr⟩
  · exact .inl h
  · exact .inr ⟨g, cap, cur, h, hb, (hu.block g (lt_of_block hg) (fun h => h)).trans hg, hr⟩

theorem nats_ins (R : List Nat) (q Z : Nat) : nats (ins R q Z) = (nats R).take q ++ [(Z : Int)] ++ (nats R).drop q := by simp [nats, ins, List.map_take, List.map_drop]
theorem own_ins {w : World} {base q k Z : Nat} {v : Value} {R : List Nat} (h : w.ownsRow base 3 1 v (0 + q + 1 + (k - q)) ((([] ++ vals ((nats R).take q)) ++ vals [(Z : Int)]) ++ vals ((nats R).drop q))) (hq : q ≤ k) :
    w.ownsRow base 3 1 v (k + 1) (vals (nats (ins R q Z))) := by
  have e : 0 + q + 1 + (k - q) = k + 1 := by omega
  have e2 : (([] ++ vals ((nats R).take q)) ++ vals [(Z : Int)]) ++ vals ((nats R).drop q) = vals (nats (ins R q Z)) := by rw [nats_ins]; simp [vals]
  rw [e, e2] at h
  exact h

/-- what the elimination says from round d on -/
def mres (r : Nat) : Nat → Nat → Nat
  | _, 0 => 0
  | d, f + 1 => if (ez r d).1 = 0 then (ez r d).2 else mres r (d + 1) f
theorem i64_pow (m : Nat) (h : m < 63) : IntKind.i64.wrap (2 ^ m) = ((2 ^ m : Nat) : Int) := by
  have hp : 2 ^ m < 2 ^ 63 := Nat.pow_lt_pow_right (by omega) h
  have e : (2 : Int) ^ m = ((2 ^ m : Nat) : Int) := by rw [Int.natCast_pow]; rfl
  rw [e]
  exact wrap_i64_nat _ hp
end Go.Proofs.YtnppjfaecnikpaaGreatDoor.Doc
namespace Go.Proofs.YtnppjfaecnikpaaGreatDoor.Doc
open Go.RowKit Pm Gfm
attribute [local irreducible] Pm.exps

set_option maxRecDepth 20000 in
set_option maxHeartbeats 3200000 in
theorem rMinimal_any (n : Int) (w : World) :
    Calls Tryz.prog 79 #[.int .i64 n] w fun e w' => ∃ v, e = .returned v ∧ PolyV w w' v (mres (pw (trn n)) 0 14) ∧ Upd noBlock w w' := by
  obtain ⟨i0, hi0, hz0, hz1, hz2⟩ := intParts2
  obtain ⟨r, HRE⟩ : ∃ r, Hid (pw (trn n) = r) := ⟨_, rfl⟩
  have HR : Hid (r < 8192) := by rw [← HRE.out]; exact pw_lt (trn n)
  rw [HRE.out]
  go_enter Tryz.func79, Tryz.ntmps79
  go_wp2_with fail
  refine (rExp_any n _).mono ?_
  rintro e w1 ⟨rfl, rfl⟩
  rw [HRE.out]
  go_wp2_with fail
  go_loopw [4, 5, 6, 7] (fun vr vm p d wr => ∃ k : Nat, k ≤ 14 ∧ d = .int .i64 (k : Int) ∧ p = .int .i64 (((el r k).2.2 : Nat) : Int) ∧ Hid (wr.ownsRow w.heap.size 3 1 vr k (vals (nats (el r k).1))) ∧ Hid (wr.ownsRow w.heap.size 3 1 vm k (vals (nats (el r k).2.1))) ∧ Hid (mres r k (14 - k) = mres r 0 14) ∧ Hid (Upd noBlock w wr)) (fun _ _ _ d _ => 14 - (intOf d).toNat)
  case atStart => exact ⟨0, by omega, rfl, rfl, World.ownsRow_nil _ _ _ _, World.ownsRow_nil _ _ _ _, rfl, Upd.refl _ _⟩
  case round =>
    obtain ⟨k, hk, rfl, rfl, HO, HM, HE, HU⟩ := hrel
    by_cases h14 : k < 14
    · obtain ⟨a, c, rfl, hi, hc⟩ := own_slice HO.out
      obtain ⟨a', c', rfl, hi', hc'⟩ := own_slice HM.out
      have HI := Lib.hid hi
      have HI' := Lib.hid hi'
      have HC := Lib.hid hc
      have HC' := Lib.hid hc'
      have hx := i64_pow k (by omega)
      have hp2 : (el r k).2.2 < 8192 := (el_tiny r k (by omega)).2.2
      have HP2 := Lib.hid hp2
      have HEZ : Hid ((ez r k).1 = (rd (el r k).1 (el r k).2.1 (el r k).2.2 (2 ^ k) k).1 ∧ (ez r k).2 = (rd (el r k).1 (el r k).2.1 (el r k).2.2 (2 ^ k) k).2) := ⟨rfl, rfl⟩
      clear hi hi' hc hc' hp2
      go_wp2_with fail
      go_region
      go_wp2_with fail
      go_loop [8, 9, 10] (fun v m i => ∃ q : Nat, q ≤ k ∧ i = .int .i64 (q : Int) ∧ v = .int .i64 (((rd (el r k).1 (el r k).2.1 (el r k).2.2 (2 ^ k) q).1 : Nat) : Int) ∧ m = .int .i64 (((rd (el r k).1 (el r k).2.1 (el r k).2.2 (2 ^ k) q).2 : Nat) : Int)) (fun _ _ i => k - (intOf i).toNat)
      case atStart => exact ⟨0, by omega, rfl, rfl, by first | rfl | skip⟩
      case round =>
        obtain ⟨q, hq, rfl, rfl, rfl⟩ := hrel
        by_cases hqk : q < k
        · obtain ⟨g, o, rfl, _, hcl⟩ := HI.out.cell (by omega)
          obtain ⟨g', o', rfl, _, hcl'⟩ := HI'.out.cell (by omega)
          have c1 := hcl q hqk
          have c2 := hcl' q hqk
          rw [nats_getD] at c1 c2
          have hst : rd (el r k).1 (el r k).2.1 (el r k).2.2 (2 ^ k) (q + 1) = if (rd (el r k).1 (el r k).2.1 (el r k).2.2 (2 ^ k) q).1 ^^^ (el r k).1.getD q 0 < (rd (el r k).1 (el r k).2.1 (el r k).2.2 (2 ^ k) q).1 then ((rd (el r k).1 (el r k).2.1 (el r k).2.2 (2 ^ k) q).1 ^^^ (el r k).1.getD q 0, (rd (el r k).1 (el r k).2.1 (el r k).2.2 (2 ^ k) q).2 ^^^ (el r k).2.1.getD q 0) else rd (el r k).1 (el r k).2.1 (el r k).2.2 (2 ^ k) q := rfl
          have htn := el_tiny r k (by omega)
          have hlt := rd_lt _ _ _ (2 ^ k) q htn.1 htn.2.1 htn.2.2 (Nat.lt_of_lt_of_le (Nat.pow_lt_pow_right (by omega) h14) (by decide))
          have hb1 := htn.1.getD (by omega) q
          have hb2 := htn.2.1.getD (by omega) q
          have HST := Lib.hid hst
          clear hst hcl hcl' htn HEZ
          generalize hV : (rd (el r k).1 (el r k).2.1 (el r k).2.2 (2 ^ k) q).1 = V at *
          generalize hN : (rd (el r k).1 (el r k).2.1 (el r k).2.2 (2 ^ k) q).2 = N at *
          have HV := Lib.hid hV
          have HN := Lib.hid hN
          clear hV hN
          generalize (el r k).1.getD q 0 = x at *
          generalize (el r k).2.1.getD q 0 = y at *
          have hX1 : bits .xor .i64 (V : Int) (x : Int) = ((V ^^^ x : Nat) : Int) := i64_xor_nat _ _ (by omega) (by omega)
          have hX2 : bits .xor .i64 (N : Int) (y : Int) = ((N ^^^ y : Nat) : Int) := i64_xor_nat _ _ (by omega) (by omega)
          by_cases hlt2 : V ^^^ x < V
          · have t1 : decide (V ^^^ x < V) = true := decide_eq_true hlt2
            have HS2 := HST.out
            rw [if_pos hlt2] at HS2
            have HST2 := Lib.hid HS2
            clear HS2 HST
            go_wp2
            go_round
            case rel => exact ⟨q + 1, by omega, by go_num, by rw [HST2.out], by rw [HST2.out]⟩
            case measure => simp [intOf]; omega
          · have t1 : decide (V ^^^ x < V) = false := decide_eq_false hlt2
            have HS2 := HST.out
            rw [if_neg hlt2] at HS2
            have HE1 := Lib.hid ((congrArg Prod.fst HS2).trans HV.out)
            have HE2 := Lib.hid ((congrArg Prod.snd HS2).trans HN.out)
            clear HS2 HST
            go_wp2
            go_round
            case rel => exact ⟨q + 1, by omega, by go_num, by rw [HE1.out], by rw [HE2.out]⟩
            case measure => simp [intOf]; omega
        · have hqe : q = k := by omega
          rw [hqe]
          clear hqe hqk hq q
          rw [← HEZ.out.1, ← HEZ.out.2]
          by_cases hz : (ez r k).1 = 0
          · have hmr : mres r k (14 - k) = (ez r k).2 := by
              obtain ⟨f, hf⟩ : ∃ f, 14 - k = f + 1 := ⟨13 - k, by omega⟩
              rw [hf]
              show (if (ez r k).1 = 0 then (ez r k).2 else mres r (k + 1) f) = _
              rw [if_pos hz]
            have HMR := Lib.hid (hmr.symm.trans HE.out)
            have HML := Lib.hid (ez_lt r k (by omega)).2
            rw [hz]
            clear hmr hz HEZ
            generalize (ez r k).2 = M at *
            go_wp2_with fail
            go_loopw [11, 12] (fun v i wr => ∃ (e : Nat) (out : List Int), e ≤ 14 ∧ i = .int .i64 ((e : Int) - 1) ∧ Hid (wr.ownsRow w.heap.size 3 1 v out.length (vals out)) ∧ Hid (out ++ exps (M % 2 ^ e) = exps M) ∧ Hid (Upd noBlock w wr)) (fun _ i _ => (intOf i + 1).toNat)
            case atStart =>
              exact ⟨14, [], by omega, rfl, World.ownsRow_nil _ _ _ _, (by
                show [] ++ exps (M % 2 ^ 14) = exps M
                rw [Nat.mod_eq_of_lt HML.out]; rfl), HU.out.drew⟩
            case round =>
              clear HO HM HI HI' HC HC' HE HU
              obtain ⟨e, out, he, rfl, HO, HX, HU⟩ := hrel
              by_cases h0 : 0 < e
              · obtain ⟨i, rfl⟩ : ∃ i, e = i + 1 := ⟨e - 1, by omega⟩
                have e1 : ((i + 1 : Nat) : Int) - 1 = (i : Int) := by omega
                rw [e1]
                have hlow := exps_low M i (by unfold top; omega)
                have hi5 : i < 14 := by omega
                have hl0 : out.length + 1 ≤ 99999 := by
                  have h1 := congrArg List.length HX.out
                  rw [List.length_append] at h1
                  have h2 := exps_length M
                  omega
                have mB : bits .and .i64 ((M : Int) / 2 ^ i) 1 = ((M / 2 ^ i % 2 : Nat) : Int) := by
                  have e : (M : Int) / 2 ^ i = ((M / 2 ^ i : Nat) : Int) := by rw [Int.natCast_ediv]; norm_cast
                  rw [e]
                  have := i64_mask ((M / 2 ^ i : Nat) : Int) 1 (by omega)
                  rw [show ((2 ^ 1 - 1 : Nat) : Int) = 1 from rfl] at this
                  rw [this]; omega
                have htb : M.testBit i = decide (M / 2 ^ i % 2 = 1) := Nat.testBit_eq_decide_div_mod_eq
                clear e1 he
                by_cases hbit : M / 2 ^ i % 2 = 1
                · have HX2 : Hid ((out ++ [(i : Int)]) ++ exps (M % 2 ^ i) = exps M) := by
                    have h := HX.out
                    rw [hlow, if_pos (by rw [htb]; exact decide_eq_true hbit)] at h
                    show (out ++ [(i : Int)]) ++ exps (M % 2 ^ i) = exps M
                    rw [List.append_assoc]; exact h
                  have t1 : (bits .and .i64 ((M : Int) / 2 ^ i) 1 == 1) = true := by rw [mB, hbit]; rfl
                  have HIn : Hid (Ints (wr.alloc (.cells #[.int .i64 (i : Int)] 3)) (wr.heap.size + 1) (some ⟨wr.heap.size, 0, none⟩) 1 [(i : Int)]) := ints1 wr (i : Int)
                  have HO2 := Lib.hid (HO.out.alloc (.cells #[.int .i64 (i : Int)] 3))
                  have HU2 := Lib.hid (HU.out.alloc (.cells #[.int .i64 (i : Int)] 3))
                  have HL := Lib.hid hl0
                  have hsz := HU.out.size
                  clear HU HO HX hbit hlow hl0 mB htb
                  go_wp2_with (at_builtin; refine wpList_append_ints _ rfl (.tmp 62) (.tmp 64) _ rfl w.heap.size 3 i0 _ Tryz.underlying59 hi0 hz0 hz1 hz2 rfl _ out.length (vals out) rfl HO2.out (wr.heap.size + 1) (some ⟨wr.heap.size, 0, none⟩) 1 1 [(i : Int)] rfl HIn.out (by have := HL.out; simp only [maxLen]; omega) (by have := HL.out; omega) (by simp; omega) ?_; intro v3 w3 hown3 hg3 _)
                  go_roundw
                  case rel =>
                    refine ⟨i, out ++ [(i : Int)], by omega, rfl, ?_, HX2, ?_⟩
                    · have e : (out ++ [(i : Int)]).length = out.length + 1 := by simp
                      have e2 : vals (out ++ [(i : Int)]) = vals out ++ vals [(i : Int)] := by simp [vals]
                      rw [e, e2]
                      exact hown3
                    · exact HU2.out.grownOwn hg3 (fun k hk => (HO2.out.lt k hk).1)
                  case measure => simp [intOf]
                · have HX2 : Hid (out ++ exps (M % 2 ^ i) = exps M) := by
                    have h := HX.out
                    rw [hlow, if_neg (by rw [htb]; simpa using hbit)] at h
                    exact h
                  have t1 : (bits .and .i64 ((M : Int) / 2 ^ i) 1 == 1) = false := by rw [mB]; exact beq_eq_false_iff_ne.2 (fun e => hbit (by exact_mod_cast e))
                  clear HX hbit hlow hl0 mB htb
                  go_wp2
                  go_roundw
                  case rel => exact ⟨i, out, by omega, rfl, HO, HX2, HU⟩
                  case measure => simp [intOf]
              · obtain rfl : e = 0 := by omega
                have e1 : ((0 : Nat) : Int) - 1 = -1 := by omega
                rw [e1]
                have hout : out = exps M := by
                  have := HX.out
                  rw [Nat.pow_zero, Nat.mod_one, exps_zero, List.append_nil] at this
                  exact this
                subst hout
                have HT : Hid (M < 2 ^ top) := Nat.lt_of_lt_of_le (show M < 2 ^ 14 from HML.out) (Nat.pow_le_pow_right (by omega) (by unfold top; omega))
                go_wp2
                go_ret
                rw [← HMR.out]
                exact ⟨_, rfl, ⟨HO.out, HT.out⟩, HU.out⟩
          · have hZ := ez_lt r k (by omega)
            have hmr : mres r (k + 1) (14 - (k + 1)) = mres r k (14 - k) := by
              obtain ⟨f, hf⟩ : ∃ f, 14 - k = f + 1 := ⟨13 - k, by omega⟩
              rw [hf, show 14 - (k + 1) = f by omega]
              show _ = (if (ez r k).1 = 0 then (ez r k).2 else mres r (k + 1) f)
              rw [if_neg hz]
            have HMR := Lib.hid (hmr.trans HE.out)
            have HEL := Lib.hid (el_succ r k)
            have HLN := Lib.hid (el_length r k)
            generalize (ez r k).1 = Z at *
            generalize (ez r k).2 = M at *
            have tz : ((Z : Int) == 0) = false := beq_eq_false_iff_ne.2 (by omega)
            have hU0 : Hid (Upd noBlock w wr.drew) := HU.out.drew
            have hI0 : Hid (Ints wr.drew wr.drew.heap.size a k (nats (el r k).1)) := HI
            have hI1 : Hid (Ints wr.drew wr.drew.heap.size a' k (nats (el r k).2.1)) := HI'
            clear hmr HE HEZ HO HM HI HI' HU
            generalize wr.drew = wo at *
            go_wp2_with fail
            go_loop [13] (fun i => ∃ q : Nat, q ≤ k ∧ i = .int .i64 (q : Int) ∧ Hid (∀ j, j < q → Z < (el r k).1.getD j 0)) (fun i => k - (intOf i).toNat)
            case atStart => exact ⟨0, Nat.zero_le _, rfl, fun j hj => absurd hj (by omega)⟩
            case round =>
              obtain ⟨q, hq, rfl, HG⟩ := hrel
              by_cases hgo : q < k ∧ Z < (el r k).1.getD q 0
              · obtain ⟨hqk, hg⟩ := hgo
                obtain ⟨g, o, rfl, _, hcl⟩ := hI0.out.cell (by omega)
                have c1 := hcl q hqk
                rw [nats_getD] at c1
                have HG2 : Hid (∀ j, j < q + 1 → Z < (el r k).1.getD j 0) := fun j hj => by
                  rcases Nat.lt_or_ge j q with h | h
                  · exact HG.out j h
                  · rw [show j = q by omega]; exact hg
                clear hcl HG
                generalize (el r k).1.getD q 0 = x at *
                have t1 : decide (Z < x) = true := decide_eq_true hg
                go_wp2
                go_round
                case rel => exact ⟨q + 1, by omega, by go_num, HG2⟩
                case measure => simp [intOf]; omega
              · have hpos : posn (el r k).1 Z = q := posn_spec Z _ q (by have := HLN.out.1; omega) HG.out (by
                  by_cases h : q < k
                  · exact .inr fun h2 => hgo ⟨h, h2⟩
                  · exact .inl (by have := HLN.out.1; omega))
                rw [hpos] at HEL
                have HQ := Lib.hid hq
                have HK := Lib.hid h14
                clear HG hpos HLN
                by_cases hqk : q < k
                case' pos =>
                  obtain ⟨g, o, rfl, _, hcl⟩ := hI0.out.cell (by omega)
                  have cc1 := hcl q hqk
                  rw [nats_getD] at cc1
                  have hng : ¬ Z < (el r k).1.getD q 0 := fun h => hgo ⟨hqk, h⟩
                  clear hcl hgo
                  generalize (el r k).1.getD q 0 = x at *
                  have t1 : decide (Z < x) = false := decide_eq_false hng
                case' neg =>
                  clear hgo
                all_goals go_wp2_with (first
                  | (refine wpList_slice_lo _ rfl (.tmp 82) (.tmp 83) _ rfl 3 i0 Tryz.underlying59 hi0 _ _ k _ q (nats (el r k).1) rfl rfl hI0.out HQ.out HC.out ?_; intro A1 c1 hA; have HA1 := Lib.hid hA; clear hA)
                  | (at_builtin; refine wpList_append_ints _ rfl (.tmp 81) (.tmp 84) _ rfl wo.heap.size 3 i0 _ Tryz.underlying59 hi0 hz0 hz1 hz2 rfl _ 0 _ rfl (World.ownsRow_nil _ _ _ _) _ _ q _ _ rfl HA1.out (by unfold maxLen; have := HQ.out; have := HK.out; omega) (by have := HQ.out; have := HK.out; omega) (Nat.le_refl _) ?_; intro v1 w1 own g _; have HO1 := Lib.hid own; have HU1 := Lib.hid ((Upd.refl noBlock wo).grownOwn g (fun _ h => nomatch h)); clear own g)
                  | (at_builtin; refine wpList_append_ints _ rfl (.tmp 86) (.tmp 88) _ rfl wo.heap.size 3 i0 _ Tryz.underlying59 hi0 hz0 hz1 hz2 rfl _ (0 + q) _ rfl (HO1.out.alloc _) (w1.heap.size + 1) (some ⟨w1.heap.size, 0, none⟩) 1 1 [_] rfl (ints1 w1 _) (by unfold maxLen; have := HQ.out; have := HK.out; omega) (by have := HQ.out; have := HK.out; omega) (by have := HU1.out.size; simp; omega) ?_; intro v2 w2 own g _; have HO2 := Lib.hid own; have HU2 := Lib.hid ((HU1.out.alloc _).grownOwn g (fun k hk => (HO1.out.lt k hk).1)); clear own g)
                  | (refine wpList_slice_hi _ rfl (.tmp 91) (.tmp 92) _ rfl 3 i0 Tryz.underlying59 hi0 hz1 _ _ k _ q (nats (el r k).1) rfl rfl (hI0.out.grow HU2.out (Nat.le_refl _)) HQ.out HC.out ?_; intro A3 c3 hA; have HA3 := Lib.hid hA; clear hA)
                  | (at_builtin; refine wpList_append_ints _ rfl (.tmp 90) (.tmp 93) _ rfl wo.heap.size 3 i0 _ Tryz.underlying59 hi0 hz0 hz1 hz2 rfl _ (0 + q + 1) _ rfl HO2.out _ _ (k - q) _ _ rfl HA3.out (by unfold maxLen; have := HQ.out; have := HK.out; omega) (by have := HQ.out; have := HK.out; omega) HU2.out.size ?_; intro v3 w3 own g _; have HO3 := Lib.hid own; have HU3 := Lib.hid (HU2.out.grownOwn g (fun k hk => (HO2.out.lt k hk).1)); clear own g; have HJ := Lib.hid ((hI1.out.grow HU3.out (Nat.le_refl _)).more HU3.out.size))
                  | (refine wpList_slice_lo _ rfl (.tmp 96) (.tmp 97) _ rfl 3 i0 Tryz.underlying59 hi0 _ _ k _ q (nats (el r k).2.1) rfl rfl HJ.out HQ.out HC'.out ?_; intro A4 c4 hA; have HA4 := Lib.hid hA; clear hA)
                  | (at_builtin; refine wpList_append_ints _ rfl (.tmp 95) (.tmp 98) _ rfl w3.heap.size 3 i0 _ Tryz.underlying59 hi0 hz0 hz1 hz2 rfl _ 0 _ rfl (World.ownsRow_nil _ _ _ _) _ _ q _ _ rfl HA4.out (by unfold maxLen; have := HQ.out; have := HK.out; omega) (by have := HQ.out; have := HK.out; omega) (Nat.le_refl _) ?_; intro v4 w4 own g _; have HO4 := Lib.hid own; have HU4 := Lib.hid ((Upd.refl noBlock w3).grownOwn g (fun _ h => nomatch h)); clear own g)
                  | (at_builtin; refine wpList_append_ints _ rfl (.tmp 100) (.tmp 102) _ rfl w3.heap.size 3 i0 _ Tryz.underlying59 hi0 hz0 hz1 hz2 rfl _ (0 + q) _ rfl (HO4.out.alloc _) (w4.heap.size + 1) (some ⟨w4.heap.size, 0, none⟩) 1 1 [_] rfl (ints1 w4 _) (by unfold maxLen; have := HQ.out; have := HK.out; omega) (by have := HQ.out; have := HK.out; omega) (by have := HU4.out.size; simp; omega) ?_; intro v5 w5 own g _; have HO5 := Lib.hid own; have HU5 := Lib.hid ((HU4.out.alloc _).grownOwn g (fun k hk => (HO4.out.lt k hk).1)); clear own g)
                  | (refine wpList_slice_hi _ rfl (.tmp 105) (.tmp 106) _ rfl 3 i0 Tryz.underlying59 hi0 hz1 _ _ k _ q (nats (el r k).2.1) rfl rfl (HJ.out.grow HU5.out (Nat.le_refl _)) HQ.out HC'.out ?_; intro A6 c6 hA; have HA6 := Lib.hid hA; clear hA)
                  | (at_builtin; refine wpList_append_ints _ rfl (.tmp 104) (.tmp 107) _ rfl w3.heap.size 3 i0 _ Tryz.underlying59 hi0 hz0 hz1 hz2 rfl _ (0 + q + 1) _ rfl HO5.out _ _ (k - q) _ _ rfl HA6.out (by unfold maxLen; have := HQ.out; have := HK.out; omega) (by have := HQ.out; have := HK.out; omega) HU5.out.size ?_; intro v6 w6 own g _; have HO6 := Lib.hid own; have HU6 := Lib.hid (HU5.out.grownOwn g (fun k hk => (HO5.out.lt k hk).1)); clear own g))
                all_goals refine (rMul_any _ _ _).mono ?_
                all_goals rintro e w7 ⟨rfl, rfl⟩
                all_goals have HT := Lib.hid (hU0.out.trans (HU3.out.trans HU6.out))
                all_goals have HR3 := Lib.hid (own_more (own_ins (own_upd HO3.out HU6.out) HQ.out) hU0.out.size)
                all_goals have HR6 := Lib.hid (own_more (own_ins HO6.out HQ.out) (hU0.out.trans HU3.out).size)
                all_goals rw [lowR_nat _ HP2.out, lowR_nat _ HR.out]
                all_goals go_wp2_with fail
                all_goals
                  go_roundw
                  case rel => exact ⟨k + 1, by omega, by go_num, by rw [HEL.out], by rw [HEL.out]; exact HR3, by rw [HEL.out]; exact HR6, HMR, HT⟩
                  case measure => simp [intOf]; omega
    · have hke : k = 14 := by omega
      have HE0 : Hid (mres r 0 14 = 0) := by have := HE.out; rw [hke] at this; exact this.symm
      rw [hke]
      clear HE hke h14 hk
      go_wp2
      go_ret
      rw [HE0.out]
      exact ⟨_, rfl, ⟨by rw [exps_zero]; exact World.ownsRow_nil _ _ _ _, Nat.two_pow_pos _⟩, HU.out⟩
end Go.Proofs.YtnppjfaecnikpaaGreatDoor.Doc
namespace Go.Proofs.YtnppjfaecnikpaaGreatDoor.Doc
open Pm Gfm

theorem evs_lst_succ (K n m : Nat) : evs K (lst (n + 1) m) = (if m.testBit n then pw (K * n) else 0) ^^^ evs K (lst n m) := by
  have e : lst (n + 1) m = if m.testBit n then (n : Int) :: lst n m else lst n m := rfl
  rw [e]
  split
  · show pw (trn ((K : Int) * (n : Int))) ^^^ _ = _
    rw [pw_trn]
  · rw [Nat.zero_xor]
theorem evs_lst_xor (K n a b : Nat) : evs K (lst n (a ^^^ b)) = evs K (lst n a) ^^^ evs K (lst n b) := by
  induction n with
  | zero => show (0 : Nat) = 0 ^^^ 0; rw [Nat.xor_self]
  | succ n ih =>
    rw [evs_lst_succ, evs_lst_succ, evs_lst_succ, ih, Nat.testBit_xor]
    generalize evs K (lst n a) = A
    generalize evs K (lst n b) = B
    generalize pw (K * n) = p
    cases a.testBit n <;> cases b.testBit n
    · simp
    · show p ^^^ (A ^^^ B) = (0 ^^^ A) ^^^ (p ^^^ B)
      rw [Nat.zero_xor, ← Nat.xor_assoc, Nat.xor_comm p A, Nat.xor_assoc]
    · show p ^^^ (A ^^^ B) = (p ^^^ A) ^^^ (0 ^^^ B)
      rw [Nat.zero_xor, Nat.xor_assoc]
    · show 0 ^^^ (A ^^^ B) = (p ^^^ A) ^^^ (p ^^^ B)
      rw [Nat.zero_xor, Nat.xor_comm p A, Nat.xor_assoc, ← Nat.xor_assoc p p, Nat.xor_self, Nat.zero_xor]
theorem evs_lst_pow (K n j : Nat) : evs K (lst n (2 ^ j)) = if j < n then pw (K * j) else 0 := by
  induction n with
  | zero => rfl
  | succ n ih =>
    rw [evs_lst_succ, ih, Nat.testBit_two_pow]
    by_cases h : j = n
    · subst h; simp
    · by_cases h2 : j < n
      · rw [if_pos h2, if_pos (show j < n + 1 by omega), if_neg (by simpa using h), Nat.zero_xor]
      · rw [if_neg h2, if_neg (show ¬ j < n + 1 by omega), if_neg (by simpa using h), Nat.zero_xor]
def ev (K m : Nat) : Nat := evs K (lst 14 m)
theorem ev_xor (K a b : Nat) : ev K (a ^^^ b) = ev K a ^^^ ev K b := evs_lst_xor K 14 a b
theorem el_p (K d : Nat) : (el (pw K) d).2.2 = pw (K * d) := by
  induction d with
  | zero => rfl
  | succ d ih =>
    rw [el_succ]
    show mul (el (pw K) d).2.2 (pw K) = _
    rw [ih, mul_pw]; rfl
theorem getD_map (l : List Nat) (K k : Nat) (h : k < l.length) : (l.map (ev K)).getD k 0 = ev K (l.getD k 0) := by
  rw [List.getD_eq_getElem?_getD, List.getElem?_map, List.getD_eq_getElem?_getD, List.getElem?_eq_getElem h]; rfl
theorem rd_ev (K d : Nat) (M : List Nat) (m k : Nat) (hM : ∀ x ∈ M, x < 2 ^ d) (hk : k ≤ M.length) :
    (rd (M.map (ev K)) M (ev K m) m k).1 = ev K (rd (M.map (ev K)) M (ev K m) m k).2 ∧ (rd (M.map (ev K)) M (ev K m) m k).2 ^^^ m < 2 ^ d := by
  induction k with
  | zero => exact ⟨rfl, by show m ^^^ m < _; rw [Nat.xor_self]; exact Nat.two_pow_pos _⟩
  | succ k ih =>
    obtain ⟨h1, h2⟩ := ih (by omega)
    rw [rd_succ]
    split
    · refine ⟨?_, ?_⟩
      · show _ ^^^ _ = ev K (_ ^^^ _)
        rw [ev_xor, ← h1, getD_map _ _ _ (by omega)]
      · show (_ ^^^ M.getD k 0) ^^^ m < _
        rw [Nat.xor_assoc, Nat.xor_comm _ m, ← Nat.xor_assoc]
        exact Nat.xor_lt_two_pow h2 (hM _ (getD_mem (by omega)).1)
    · exact ⟨h1, h2⟩
theorem ins_map (l : List Nat) (K i m : Nat) : (ins l i m).map (ev K) = ins (l.map (ev K)) i (ev K m) := by simp [ins, List.map_take, List.map_drop]
theorem el_ev (K d : Nat) (hd : d ≤ 14) : (el (pw K) d).1 = (el (pw K) d).2.1.map (ev K) ∧ (∀ x ∈ (el (pw K) d).2.1, x < 2 ^ d) := by
  induction d with
  | zero => exact ⟨rfl, fun x hx => (by cases hx)⟩
  | succ d ih =>
    obtain ⟨h1, h2⟩ := ih (by omega)
    have hp : ev K (2 ^ d) = (el (pw K) d).2.2 := by
      rw [el_p]; show evs K (lst 14 (2 ^ d)) = _; rw [evs_lst_pow, if_pos (by omega)]
    have hr := rd_ev K d (el (pw K) d).2.1 (2 ^ d) d h2 (by rw [(el_length _ _).2]; exact Nat.le_refl _)
    rw [← h1, hp] at hr
    have hz : (ez (pw K) d).1 = ev K (ez (pw K) d).2 := hr.1
    have ht : (ez (pw K) d).2 ^^^ 2 ^ d < 2 ^ d := hr.2
    rw [el_succ]
    refine ⟨?_, ?_⟩
    · show ins _ _ _ = (ins _ _ _).map (ev K)
      rw [ins_map, ← h1, hz]
    · have hb : (ez (pw K) d).2 < 2 ^ (d + 1) := by
        have h3 : (ez (pw K) d).2 ^^^ 2 ^ d < 2 ^ (d + 1) := Nat.lt_of_lt_of_le ht (Nat.pow_le_pow_right (by omega) (by omega))
        have h4 := Nat.xor_lt_two_pow h3 (Nat.pow_lt_pow_right (a := 2) (by omega) (show d < d + 1 by omega))
        rwa [Nat.xor_assoc, Nat.xor_self, Nat.xor_zero] at h4
      intro x hx
      have hx2 : x ∈ ins (el (pw K) d).2.1 (posn (el (pw K) d).1 (ez (pw K) d).1) (ez (pw K) d).2 := hx
      simp only [ins, List.mem_append, List.mem_singleton] at hx2
      rcases hx2 with (hx2 | rfl) | hx2
      · exact Nat.lt_of_lt_of_le (h2 x (List.mem_of_mem_take hx2)) (Nat.pow_le_pow_right (by omega) (by omega))
      · exact hb
      · exact Nat.lt_of_lt_of_le (h2 x (List.mem_of_mem_drop hx2)) (Nat.pow_le_pow_right (by omega) (by omega))
theorem ez_ev (K d : Nat) (hd : d ≤ 13) : (ez (pw K) d).1 = ev K (ez (pw K) d).2 ∧ (ez (pw K) d).2 ^^^ 2 ^ d < 2 ^ d := by
  obtain ⟨h1, h2⟩ := el_ev K d (by omega)
  have hp : ev K (2 ^ d) = (el (pw K) d).2.2 := by
    rw [el_p]; show evs K (lst 14 (2 ^ d)) = _; rw [evs_lst_pow, if_pos (by omega)]
  have hr := rd_ev K d (el (pw K) d).2.1 (2 ^ d) d h2 (by rw [(el_length _ _).2]; exact Nat.le_refl _)
  rw [← h1, hp] at hr
  exact hr
theorem ez_bits (r d : Nat) (h : Ech (el r d).1) : ∀ x ∈ (el r d).1, (ez r d).1.testBit x.log2 = false := by
  intro x hx
  obtain ⟨j, hj, rfl⟩ := List.getElem_of_mem hx
  have hl := (el_length r d).1
  have := rd_bits (el r d).1 (el r d).2.1 (el r d).2.2 (2 ^ d) d h (by omega) j (by omega)
  rwa [(getD_mem hj).2] at this
theorem ez_spn (r d : Nat) : Spn (el r d).1 ((ez r d).1 ^^^ (el r d).2.2) := rd_spn _ _ _ _ _ (by rw [(el_length r d).1]; exact Nat.le_refl _)
theorem el_ech (K d : Nat) (h : ∀ j, j < d → (ez (pw K) j).1 ≠ 0) : Ech (el (pw K) d).1 ∧ ∀ j, j < d → Spn (el (pw K) d).1 (pw (K * j)) := by
  induction d with
  | zero => exact ⟨⟨fun x hx => (by cases hx), List.Pairwise.nil⟩, fun j hj => absurd hj (by omega)⟩
  | succ d ih =>
    obtain ⟨h1, h2⟩ := ih (fun j hj => h j (by omega))
    have e : (el (pw K) (d + 1)).1 = ins (el (pw K) d).1 (posn (el (pw K) d).1 (ez (pw K) d).1) (ez (pw K) d).1 := by rw [el_succ]
    have hsub : ∀ v, Spn (el (pw K) d).1 v → Spn (el (pw K) (d + 1)).1 v := spn_sub _ _ fun x hx => spn_mem _ _ (by
      rw [e]
      generalize posn (el (pw K) d).1 (ez (pw K) d).1 = i
      rw [← List.take_append_drop i (el (pw K) d).1] at hx
      simp only [ins, List.mem_append, List.mem_singleton] at hx ⊢
      rcases hx with hx | hx
      · exact .inl (.inl hx)
      · exact .inr hx)
    have hz : Spn (el (pw K) (d + 1)).1 (ez (pw K) d).1 := spn_mem _ _ (by rw [e]; simp [ins])
    refine ⟨?_, fun j hj => ?_⟩
    · rw [e]; exact ech_ins _ _ h1 (h d (by omega)) (ez_bits _ _ h1)
    · rcases Nat.lt_or_ge j d with h3 | h3
      · exact hsub _ (h2 j h3)
      · obtain rfl : j = d := by omega
        have := spn_xor _ _ _ hz (hsub _ (ez_spn (pw K) j))
        rwa [← Nat.xor_assoc, Nat.xor_self, Nat.zero_xor, el_p] at this
theorem ez_zero (K d : Nat) (h : ∀ j, j < d → (ez (pw K) j).1 ≠ 0) (hs : Spn (el (pw K) d).1 (pw (K * d))) : (ez (pw K) d).1 = 0 := by
  obtain ⟨h1, _⟩ := el_ech K d h
  refine red_zero _ h1 _ ?_ (ez_bits _ _ h1)
  have := spn_xor _ _ _ (ez_spn (pw K) d) hs
  rwa [el_p, Nat.xor_assoc, Nat.xor_self, Nat.xor_zero] at this
theorem spn_lst (K d m n : Nat) (h : ∀ j, j < d → (ez (pw K) j).1 ≠ 0) (hn : n ≤ d) : Spn (el (pw K) d).1 (evs K (lst n m)) := by
  induction n with
  | zero => exact spn_zero _
  | succ n ih =>
    rw [evs_lst_succ]
    refine spn_xor _ _ _ ?_ (ih (by omega))
    split
    · exact (el_ech K d h).2 n (by omega)
    · exact spn_zero _
/-- no relation among the powers before the first that hangs on them -/
theorem free (K d : Nat) (h : ∀ j, j < d → (ez (pw K) j).1 ≠ 0) : ∀ m, m < 2 ^ d → evs K (lst d m) = 0 → m = 0 := by
  induction d with
  | zero => intro m hm _; simpa using hm
  | succ d ih =>
    intro m hm he
    have ih' := ih (fun j hj => h j (by omega))
    rw [evs_lst_succ] at he
    by_cases hb : m.testBit d = true
    · rw [if_pos hb] at he
      have h1 := spn_lst K d m d (fun j hj => h j (by omega)) (Nat.le_refl _)
      rw [← (xor_zero_iff _ _).1 he] at h1
      exact absurd (ez_zero K d (fun j hj => h j (by omega)) h1) (h d (by omega))
    · rw [if_neg hb, Nat.zero_xor] at he
      refine ih' m ?_ he
      refine Nat.lt_pow_two_of_testBit m fun j hj => ?_
      rcases Nat.eq_or_lt_of_le hj with h4 | h4
      · rw [← h4]; simpa using hb
      · exact Nat.testBit_lt_two_pow (Nat.lt_of_lt_of_le hm (Nat.pow_le_pow_right (by omega) h4))
/-- a relation is found at 13 at the latest -/
theorem found (K : Nat) : ∃ d, d ≤ 13 ∧ (ez (pw K) d).1 = 0 ∧ ∀ j, j < d → (ez (pw K) j).1 ≠ 0 := by
  have key : ∀ n, n ≤ 13 → (∃ d, d < n ∧ (ez (pw K) d).1 = 0 ∧ ∀ j, j < d → (ez (pw K) j).1 ≠ 0) ∨ ∀ j, j < n → (ez (pw K) j).1 ≠ 0 := by
    intro n
    induction n with
    | zero => intro _; exact .inr fun j hj => absurd hj (by omega)
    | succ n ih =>
      intro hn
      rcases ih (by omega) with ⟨d, h1, h2⟩ | h
      · exact .inl ⟨d, by omega, h2⟩
      · by_cases hz : (ez (pw K) n).1 = 0
        · exact .inl ⟨n, by omega, hz, h⟩
        · refine .inr fun j hj => ?_
          rcases Nat.lt_or_ge j n with h3 | h3
          · exact h j h3
          · rw [show j = n by omega]; exact hz
  rcases key 13 (Nat.le_refl _) with ⟨d, h1, h2⟩ | h
  · exact ⟨d, by omega, h2⟩
  · refine ⟨13, Nat.le_refl _, ?_, h⟩
    obtain ⟨h1, _⟩ := el_ech K 13 h
    have hl := (el_length (pw K) 13).1
    have ht := (el_tiny (pw K) 13 (by omega)).1
    have hz := (ez_lt (pw K) 13 (by omega)).1
    exact full_zero _ _ h1 (by rw [hl]; exact ht) (by rw [hl]; exact hz) (ez_bits _ _ h1)
theorem mres_at (r D : Nat) (h0 : (ez r D).1 = 0) (h : ∀ j, j < D → (ez r j).1 ≠ 0) : ∀ n d f, d + n = D → n < f → mres r d f = (ez r D).2 := by
  intro n
  induction n with
  | zero =>
    intro d f hd hf
    obtain ⟨f, rfl⟩ : ∃ g, f = g + 1 := ⟨f - 1, by omega⟩
    obtain rfl : d = D := by omega
    show (if (ez r d).1 = 0 then (ez r d).2 else _) = _
    rw [if_pos h0]
  | succ n ih =>
    intro d f hd hf
    obtain ⟨f, rfl⟩ : ∃ g, f = g + 1 := ⟨f - 1, by omega⟩
    show (if (ez r d).1 = 0 then _ else mres r (d + 1) f) = _
    rw [if_neg (h d (by omega))]
    exact ih (d + 1) f (by omega) (by omega)
/-- the one relation of its degree -/
theorem mres_one (K D P : Nat) (hD : D ≤ 13) (h0 : (ez (pw K) D).1 = 0) (h : ∀ j, j < D → (ez (pw K) j).1 ≠ 0) (hP : P ^^^ 2 ^ D < 2 ^ D) (hz : evs K (lst 14 P) = 0) : mres (pw K) 0 14 = P := by
  rw [mres_at (pw K) D h0 h D 0 14 (by omega) (by omega)]
  obtain ⟨h1, h2⟩ := ez_ev K D hD
  rw [h0] at h1
  have hx : (ez (pw K) D).2 ^^^ P < 2 ^ D := by
    have := Nat.xor_lt_two_pow h2 hP
    rwa [Nat.xor_comm P, Nat.xor_assoc, ← Nat.xor_assoc (2 ^ D) (2 ^ D), Nat.xor_self, Nat.zero_xor] at this
  have hv : ev K ((ez (pw K) D).2 ^^^ P) = 0 := by
    rw [ev_xor, ← h1, Nat.zero_xor]; exact hz
  refine (xor_zero_iff _ _).1 (free K D h _ hx ?_)
  rw [← hv]
  show _ = evs K (lst 14 _)
  rw [lst_up D 14 _ hx (by omega)]
end Go.Proofs.YtnppjfaecnikpaaGreatDoor.Doc
namespace Go.Proofs.YtnppjfaecnikpaaGreatDoor.Doc
open Pm Gfm

theorem spn_all (R : List Nat) : ∀ n, Ech R → (∀ v, v < 2 ^ n → Spn R v) → n ≤ R.length := by
  induction R with
  | nil =>
    intro n _ h
    cases n with
    | zero => exact Nat.le_refl _
    | succ n =>
      have h1 : (1 : Nat) < 2 ^ (n + 1) := by have := Nat.two_pow_pos n; rw [Nat.pow_succ]; omega
      have h2 : (1 : Nat) = 0 := h 1 h1
      omega
  | cons x l ih =>
    intro n h hs
    cases n with
    | zero => exact Nat.zero_le _
    | succ n =>
      have hx0 := h.1 x List.mem_cons_self
      have hsm := ech_small h
      by_cases hx : x.log2 < n
      · exfalso
        have h1 := hs (2 ^ n) (Nat.pow_lt_pow_right (by omega) (by omega))
        have h2 : x < 2 ^ n := Nat.lt_of_lt_of_le Nat.lt_log2_self (Nat.pow_le_pow_right (by omega) hx)
        have h3 : 2 ^ x.log2 ≤ 2 ^ n := Nat.pow_le_pow_right (by omega) (by omega)
        rcases h1 with h1 | h1
        · have := hsm _ h1; omega
        · have h4 := Nat.lt_of_lt_of_le (hsm _ h1) h3
          have h5 := Nat.xor_lt_two_pow h4 h2
          rw [Nat.xor_assoc, Nat.xor_self, Nat.xor_zero] at h5
          omega
      · have := ih n (ech_tail h) (fun v hv => by
          rcases hs v (Nat.lt_of_lt_of_le hv (Nat.pow_le_pow_right (by omega) (by omega))) with h1 | h1
          · exact h1
          · exfalso
            have h2 := Nat.testBit_lt_two_pow (hsm _ h1)
            have h3 : v < 2 ^ x.log2 := Nat.lt_of_lt_of_le hv (Nat.pow_le_pow_right (by omega) (by omega))
            rw [Nat.testBit_xor, lead_bit x hx0, Nat.testBit_lt_two_pow h3] at h2
            cases h2)
        show n + 1 ≤ l.length + 1
        omega
theorem spn_ev (K d : Nat) (M : List Nat) (hM : ∀ x ∈ M, x < 2 ^ d) : ∀ v, Spn (M.map (ev K)) v → ∃ m, m < 2 ^ d ∧ v = ev K m := by
  induction M with
  | nil =>
    intro v hv
    have h0 : v = 0 := hv
    exact ⟨0, Nat.two_pow_pos _, by rw [h0]; show 0 = ev K 0; exact ((xor_zero_iff (ev K 0) (ev K 0)).2 rfl).symm.trans (ev_xor K 0 0).symm⟩
  | cons x l ih =>
    intro v hv
    have ih' := ih (fun y hy => hM y (List.mem_cons_of_mem _ hy))
    rcases hv with hv | hv
    · exact ih' v hv
    · obtain ⟨m, hm, e⟩ := ih' _ hv
      refine ⟨m ^^^ x, Nat.xor_lt_two_pow hm (hM x List.mem_cons_self), ?_⟩
      rw [ev_xor, ← e, Nat.xor_assoc, Nat.xor_self, Nat.xor_zero]
theorem mul_lst (K n m : Nat) : mul (evs K (lst n m)) (pw K) = evs K (lst (n + 1) (2 * m)) := by
  induction n with
  | zero =>
    have e : evs K (lst 1 (2 * m)) = 0 := by
      rw [evs_lst_succ]
      have : (2 * m).testBit 0 = false := by simp
      rw [if_neg (by rw [this]; simp)]
      show (0 : Nat) ^^^ 0 = 0
      rfl
    rw [e]
    show mul 0 (pw K) = 0
    rw [mul_comm _ _ (by omega) (pw_lt _), mul_zero]
  | succ n ih =>
    have e : (2 * m).testBit (n + 1) = m.testBit n := by
      rw [Nat.mul_comm, Nat.testBit_succ]
      simp
    rw [evs_lst_succ, xor_mul _ _ _ (by split; exact pw_lt _; omega) (evs_lt _ _), ih, evs_lst_succ K (n + 1), e]
    congr 1
    split
    · rw [mul_pw]; rfl
    · rw [mul_comm _ _ (by omega) (pw_lt _), mul_zero]
theorem spn_pw (K D : Nat) (hD : D ≤ 13) (h0 : (ez (pw K) D).1 = 0) (h : ∀ j, j < D → (ez (pw K) j).1 ≠ 0) (i : Nat) : Spn (el (pw K) D).1 (pw (K * i)) := by
  have hall : ∀ j, j ≤ D → Spn (el (pw K) D).1 (pw (K * j)) := fun j hj => by
    rcases Nat.lt_or_ge j D with h1 | h1
    · exact (el_ech K D h).2 j h1
    · have := ez_spn (pw K) D
      rw [h0, Nat.zero_xor, el_p] at this
      rw [show j = D by omega]; exact this
  have hl : ∀ n m, n ≤ D + 1 → Spn (el (pw K) D).1 (evs K (lst n m)) := by
    intro n m
    induction n with
    | zero => intro _; exact spn_zero _
    | succ n ih =>
      intro hn
      rw [evs_lst_succ]
      refine spn_xor _ _ _ ?_ (ih (by omega))
      split
      · exact hall n (by omega)
      · exact spn_zero _
  induction i with
  | zero => exact hall 0 (Nat.zero_le _)
  | succ i ih =>
    obtain ⟨h1, h2⟩ := el_ev K D (by omega)
    rw [h1] at ih
    obtain ⟨m, hm, e⟩ := spn_ev K D _ h2 _ ih
    have e2 : pw (K * (i + 1)) = mul (pw (K * i)) (pw K) := by rw [mul_pw]; rfl
    rw [e2, e]
    show Spn _ (mul (evs K (lst 14 m)) (pw K))
    rw [lst_up D 14 m hm (by omega), mul_lst]
    exact hl (D + 1) _ (Nat.le_refl _)
def invR' (x : Nat) : Nat → Nat → Nat
  | 0, a => a
  | n + 1, a => match a * a * x % 8191 with | 0 => 0 | q + 1 => invR' x n (q + 1)
def invC (x : Nat) : Bool := match invR' x 11 1 with | 0 => false | a + 1 => (((a + 1) * (a + 1) % 8191) * ((a + 1) * (a + 1) % 8191) % 8191 * x % 8191) * x % 8191 == 1
def invD : Nat → Nat → Bool
  | _, 0 => true
  | s, n + 1 => match invC (s + n + 1) with | true => invD s n | false => false
theorem invD_spec (s n : Nat) (h : invD s n = true) : ∀ x, s < x → x ≤ s + n → ∃ y, y * x % 8191 = 1 := by
  induction n with
  | zero => intro x h1 h2; omega
  | succ n ih =>
    unfold invD at h
    split at h
    · rename_i hc
      intro x h1 h2
      rcases Nat.lt_or_ge x (s + n + 1) with h3 | h3
      · exact ih h x h1 (by omega)
      · obtain rfl : x = s + n + 1 := by omega
        unfold invC at hc
        split at hc
        · cases hc
        · exact ⟨_, by simpa using hc⟩
    · cases h
set_option maxRecDepth 100000 in
theorem invD_run : ∀ a : Fin 63, invD (130 * a.val) 130 = true := by decide +kernel
theorem inverse (K : Nat) (h0 : 0 < K) (h : K < 8191) : ∃ y, y * K % 8191 = 1 := by
  have h1 : (K - 1) / 130 < 63 := by omega
  exact invD_spec _ _ (invD_run ⟨(K - 1) / 130, h1⟩) K (by show 130 * ((K - 1) / 130) < K; omega) (by show K ≤ 130 * ((K - 1) / 130) + 130; omega)
theorem all_13 (K D : Nat) (hK : 0 < K) (hK2 : K < 8191) (hD : D ≤ 13) (h0 : (ez (pw K) D).1 = 0) (h : ∀ j, j < D → (ez (pw K) j).1 ≠ 0) : D = 13 := by
  obtain ⟨y, hy⟩ := inverse K hK hK2
  have hs := spn_pw K D hD h0 h
  obtain ⟨h1, _⟩ := el_ech K D h
  have := spn_all _ 13 h1 (fun v hv => by
    by_cases hv0 : v = 0
    · rw [hv0]; exact spn_zero _
    · obtain ⟨m, hm, rfl⟩ := pw_all v (by omega) hv
      have e : pw (K * (y * m)) = pw m := by
        rw [← pw_mod (K * (y * m)), ← Nat.mul_assoc, Nat.mul_comm K y, Nat.mul_mod, hy, Nat.one_mul, Nat.mod_mod, pw_mod]
      rw [← e]; exact hs _)
  rw [(el_length _ _).1] at this
  omega
theorem one_ez : (ez (pw 0) 0).1 ≠ 0 ∧ (ez (pw 0) 1).1 = 0 := by decide +kernel
/-- the document's answer is the program's -/
theorem mres_mpol (K J : Nat) (hK : K < 8191) (h1 : 1 ≤ J) (hJ : J ≤ 13) (h : rt K J = rt K 0) (hf : ∀ i, 1 ≤ i → i < J → rt K i ≠ rt K 0) : mres (pw K) 0 14 = mpol K J := by
  obtain ⟨b1, b2, _⟩ := mpol_bits K J h1 hJ h
  have hz : evs K (lst 14 (mpol K J)) = 0 := by
    have h2 := (mpol_zero K J K h1 hJ h).2 ⟨0, by omega, rfl⟩
    have h3 : mpol K J < 2 ^ 14 := Nat.lt_of_lt_of_le b2 (Nat.pow_le_pow_right (by omega) (by omega))
    rw [← h2]
    show _ = evs K (lst top _)
    rw [lst_up 14 top _ h3 (by unfold top; omega)]
  have hx : mpol K J ^^^ 2 ^ J < 2 ^ J := by
    have hb : (mpol K J).testBit J = true := Nat.testBit_of_two_pow_le_and_two_pow_add_one_gt b1 b2
    refine Nat.lt_pow_two_of_testBit _ fun j hj => ?_
    rw [Nat.testBit_xor, Nat.testBit_two_pow]
    rcases Nat.eq_or_lt_of_le hj with h4 | h4
    · rw [← h4, hb]; simp
    · rw [Nat.testBit_lt_two_pow (Nat.lt_of_lt_of_le b2 (Nat.pow_le_pow_right (by omega) h4))]
      simp; omega
  have hDJ : ∃ D, D = J ∧ D ≤ 13 ∧ (ez (pw K) D).1 = 0 ∧ ∀ j, j < D → (ez (pw K) j).1 ≠ 0 := by
    by_cases hK0 : K = 0
    · subst hK0
      have hJ1 : J = 1 := by
        rcases Nat.lt_or_ge 1 J with h2 | h2
        · exact absurd (by rw [rt_pw, rt_pw]) (hf 1 (Nat.le_refl _) h2)
        · omega
      refine ⟨1, hJ1.symm, by omega, one_ez.2, fun j hj => ?_⟩
      obtain rfl : j = 0 := by omega
      exact one_ez.1
    · obtain ⟨D, d1, d2, d3⟩ := found K
      have hD := all_13 K D (by omega) hK d1 d2 d3
      refine ⟨D, ?_, d1, d2, d3⟩
      rcases Nat.lt_or_ge J D with h2 | h2
      · exfalso
        have h3 : mpol K J < 2 ^ D := Nat.lt_of_lt_of_le b2 (Nat.pow_le_pow_right (by omega) h2)
        have h4 := free K D d3 _ h3 (by rw [← lst_up D 14 _ h3 (by omega)]; exact hz)
        have := Nat.two_pow_pos J
        omega
      · omega
  obtain ⟨D, rfl, d1, d2, d3⟩ := hDJ
  exact mres_one K D _ d1 d2 d3 hx hz
end Go.Proofs.YtnppjfaecnikpaaGreatDoor.Doc
namespace Go.Proofs.YtnppjfaecnikpaaGreatDoor.Doc
open Go.RowKit Pm Gfm

theorem list_eq (xs ys : List Int) (n : Nat) (h1 : xs.length = n) (h2 : ys.length = n) (h : ∀ j, j < n → xs.getD j 0 = ys.getD j 0) : xs = ys := by
  refine List.ext_getElem (by omega) fun j hj hj' => ?_
  have := h j (by omega)
  rw [List.getD_eq_getElem?_getD, List.getD_eq_getElem?_getD, List.getElem?_eq_getElem hj, List.getElem?_eq_getElem hj'] at this
  exact this
set_option maxRecDepth 20000 in
set_option maxHeartbeats 800000 in
/-- two lists that differ are told apart -/
theorem same_no (a : Option Addr) (n cap B : Nat) (a' : Option Addr) (n' cap' B' : Nat) (xs ys : List Int) (w : World) (hr : Ints w B a n xs) (hr' : Ints w B' a' n' ys) (hm : n ≤ maxLen) (hne : xs ≠ ys) :
    Calls Tryz.prog 80 #[.slice a n cap, .slice a' n' cap'] w fun e w' => e = .returned (.bool false) ∧ Upd noBlock w w' := by
  have hcap : n ≤ 9223372036854775807 := by unfold maxLen at hm; omega
  have HR := Lib.hid hr
  have HR' := Lib.hid hr'
  have HN := Lib.hid hne
  clear hr hr' hm hne
  by_cases hn : n = n'
  · subst hn
    go_enter Tryz.func80, Tryz.ntmps80
    go_wp2
    go_loopw [5] (fun i wr => ∃ k : Nat, k ≤ n ∧ i = .int .i64 (k : Int) ∧ Hid (∀ j, j < k → xs.getD j 0 = ys.getD j 0) ∧ Hid (Ints wr B a n xs) ∧ Hid (Ints wr B' a' n ys) ∧ Hid (Upd noBlock w wr)) (fun i _ => n - (intOf i).toNat)
    case atStart => exact ⟨0, Nat.zero_le _, rfl, (fun j hj => absurd hj (by omega)), HR, HR', Upd.refl _ _⟩
    case round =>
      clear HR HR'
      obtain ⟨k, hk, rfl, HE, HR, HS, HU⟩ := hrel
      by_cases h0 : k < n
      · obtain ⟨g, off, rfl, _, hc1⟩ := HR.out.cell (by omega)
        obtain ⟨g', off', rfl, _, hc2⟩ := HS.out.cell (by omega)
        have c1 := hc1 k h0
        have c2 := hc2 k h0
        clear hc1 hc2
        by_cases hz : xs.getD k 0 = ys.getD k 0
        · have HE2 : Hid (∀ j, j < k + 1 → xs.getD j 0 = ys.getD j 0) := fun j hj => by
            rcases Nat.lt_or_ge j k with h1 | h1
            · exact HE.out j h1
            · rw [show j = k by omega]; exact hz
          rw [← hz] at c2
          clear hz HE
          generalize xs.getD k 0 = z at c1 c2
          go_wp2
          go_quiet (fail)
          go_wp2
          go_roundw
          case rel => exact ⟨k + 1, by omega, by go_num, HE2, HR, HS, HU.out.drewN _⟩
          case measure => simp [intOf]; omega
        · have t1 : (xs.getD k 0 == ys.getD k 0) = false := beq_eq_false_iff_ne.2 hz
          clear HE
          generalize xs.getD k 0 = z at c1 c2 t1 hz
          generalize ys.getD k 0 = z' at c1 c2 t1 hz
          go_wp2
          go_quiet (fail)
          go_wp2
          go_ret
          exact ⟨rfl, HU.out.drewN _⟩
      · exact absurd (list_eq xs ys n HR.out.1 HS.out.1 (fun j hj => HE.out j (by omega))) HN.out
  · have t1 : ((n : Int) == (n' : Int)) = false := beq_eq_false_iff_ne.2 (by omega)
    go_enter Tryz.func80, Tryz.ntmps80
    go_wp2
    go_ret
    exact ⟨rfl, Upd.refl _ _⟩
/-- a list of the call's own stays while a row of slices grows -/
theorem own_far {w w' : World} {base base' n m : Nat} {v sv : Value} {xs ys : List Value} (h : w.ownsRow base 3 1 v n xs) (hs : w.ownsRow base' 59 1 sv m ys) (hg : w.grownBy w' sv.ownBlock) : w'.ownsRow base 3 1 v n xs := by
  obtain ⟨hl, h⟩ := h
  refine ⟨hl, ?_⟩
  rcases h with h | ⟨g, cap, cur, h, hb, hc, hr⟩
  · exact .inl h
  · refine .inr ⟨g, cap, cur, h, hb, ?_, hr⟩
    have hne : some g ≠ sv.ownBlock := fun e => by
      obtain ⟨_, hs⟩ := hs
      rcases hs with ⟨rfl, _⟩ | ⟨g', cap', cur', rfl, _, hc', _⟩
      · cases e
      · have e2 : g = g' := by simpa [Value.ownBlock] using e
        subst e2
        rw [hc] at hc'
        have := congrArg (fun o : Option Obj => match o with | some (.cells _ t _) => t | _ => 0) hc'
        simp at this
    exact (hg.block g (lt_of_block hc) hne).trans hc
/-- a row of slices, opened -/
theorem own_slots {w : World} {base n : Nat} {v : Value} {L : List Value} (h : w.ownsRow base 59 1 v n L) :
    ∃ a c, v = .slice a n c ∧ n ≤ maxLen ∧ L.length = n ∧ (0 < n → ∃ g, a = some ⟨g, 0, none⟩ ∧ g < w.heap.size ∧ ∀ q u, L[q]? = some u → w.cell? ⟨g, q, none⟩ = some u) := by
  obtain ⟨hl, h⟩ := h
  rcases h with ⟨rfl, rfl⟩ | ⟨g, cap, cur, rfl, hb, hg, hnc, hcm, hsz, htake⟩
  · exact ⟨none, 0, rfl, Nat.zero_le _, by omega, fun h => absurd h (by omega)⟩
  · refine ⟨some ⟨g, 0, none⟩, cap, rfl, by omega, by omega, fun _ => ⟨g, rfl, lt_of_block hg, fun q u hq => ?_⟩⟩
    have hqn := (List.getElem?_eq_some_iff.1 hq).1
    rw [cell_of hg q]
    have : (cur.toList.take (n * 1))[q]? = L[q]? := by rw [htake]
    rw [List.getElem?_take, if_pos (by omega), Array.getElem?_toList] at this
    rw [this, hq]
theorem mp_ne : ∀ i j : Fin 8, i ≠ j → mv.getD i.val 0 ≠ mv.getD j.val 0 := by decide +kernel
theorem mp_apart (i j : Nat) (hi : i < 8) (hj : j < i) : exps (mp j) ≠ exps (mp i) := fun e => by
  have h := congrArg gat e
  rw [gat_exps _ (Nat.lt_of_lt_of_le (mp_deg ⟨j, by omega⟩).2 (Nat.pow_le_pow_right (by omega) (by unfold top; omega))), gat_exps _ (Nat.lt_of_lt_of_le (mp_deg ⟨i, hi⟩).2 (Nat.pow_le_pow_right (by omega) (by unfold top; omega)))] at h
  have h1 := mp_val ⟨j, by omega⟩
  have h2 := mp_val ⟨i, hi⟩
  exact mp_ne ⟨j, by omega⟩ ⟨i, hi⟩ (by simp; omega) (h1.symm.trans (h.trans h2))
theorem mres_mp (i : Nat) (hi : i < 8) : mres (pw (trn (2 * (i : Int) + 1))) 0 14 = mp i := by
  have e : trn (2 * (i : Int) + 1) = 2 * i + 1 := by unfold trn; omega
  rw [e]
  exact mres_mpol _ 13 (by omega) (by omega) (by omega) (rt_13 _) fun J h1 h2 h3 => by
    have := odd_13 i hi J h1 (by omega) h3
    omega
end Go.Proofs.YtnppjfaecnikpaaGreatDoor.Doc
namespace Go.Proofs.YtnppjfaecnikpaaGreatDoor.Doc
open Go.RowKit Pm Gfm
attribute [local irreducible] Pm.exps pmul mp GG mpol mres

theorem slotParts : ∃ i1, Tryz.prog.info? 59 = some i1 ∧ i1.zero = some (.slice none 0 0) ∧ i1.size = 1 ∧ i1.bytes = 24 := by
  have intCells : (Tryz.prog.info? 59).map (fun i => (i.zero, i.size, i.bytes)) = some (some (.slice none 0 0), 1, 24) := by kernel_rfl
  obtain ⟨i0, h1, h2⟩ := Option.map_eq_some_iff.1 intCells
  simp only [Prod.mk.injEq] at h2
  exact ⟨i0, h1, h2.1, h2.2.1, h2.2.2⟩
theorem slot_one (a : Option Addr) (n c : Nat) : ∀ u ∈ [Value.slice a n c], u.oneCell' = true := by
  intro u hu
  obtain rfl : u = .slice a n c := by simpa using hu
  rfl
theorem GG_zero : gat [0] = GG 0 := by unfold GG; rfl
theorem GG_next (i : Nat) : pmul (GG i) (mp i) = GG (i + 1) := by conv => rhs; unfold GG
theorem exps_one : exps (GG 0) = [0] := by
  have h : GG 0 = 1 := by rw [← GG_zero]; decide
  rw [h]
  unfold Pm.exps
  rw [lst_up 1 top 1 (by omega) (by unfold top; omega)]
  rfl

set_option maxRecDepth 20000 in
set_option maxHeartbeats 3200000 in
theorem rGenerator_any (t : Nat) (w : World) (ht1 : 1 ≤ t) (ht8 : t ≤ 8) :
    Calls Tryz.prog 57 #[.int .i64 (t : Int)] w fun e w' => ∃ v, e = .returned v ∧ PolyV w w' v (GG t) ∧ Upd noBlock w w' := by
  obtain ⟨i1, hi1, hz0, hz1, hz2⟩ := slotParts
  have hnot : ∀ (x : Bool) (w : World), (Op.unary .not (.bool x)).run Tryz.prog w = .ok (.bool (!x)) w := fun _ _ => rfl
  have HU0 : Hid (Upd noBlock w (w.alloc (.cells #[.int .i64 0] 3))) := (Upd.refl _ _).alloc _
  have HP0 : Hid (PolyV w (w.alloc (.cells #[.int .i64 0] 3)) (.slice (some ⟨w.heap.size, 0, none⟩) 1 1) (GG 0)) := by
    refine ⟨?_, GG_top 0 (by omega)⟩
    rw [exps_one]
    exact ⟨rfl, .inr ⟨w.heap.size, 1, #[.int .i64 0], rfl, Nat.le_refl _, heap_alloc_new w _, Nat.le_refl _, by unfold maxLen; omega, rfl, rfl⟩⟩
  go_enter Tryz.func57, Tryz.ntmps57
  go_wp2_with fail
  go_loopw [3, 4, 5] (fun ov sv k wr => ∃ (i : Nat) (L : List Value), i ≤ t ∧ k = .int .i64 (2 * (i : Int) + 1) ∧ Hid (PolyV w wr ov (GG i)) ∧ Hid (wr.ownsRow w.heap.size 59 1 sv i L) ∧ Hid (∀ j, j < i → ∃ v, L[j]? = some v ∧ PolyV w wr v (mp j)) ∧ Hid (Upd noBlock w wr)) (fun _ _ k _ => (17 - intOf k).toNat)
  case atStart => exact ⟨0, [], Nat.zero_le _, rfl, HP0, World.ownsRow_nil _ _ _ _, fun j hj => absurd hj (by omega), HU0⟩
  case round =>
    clear HP0 HU0
    obtain ⟨i, L, hi, rfl, HP, HS, HL, HU⟩ := hrel
    by_cases hit : i < t
    · have hlt : 2 * (i : Int) + 1 < 2 * (t : Int) := by omega
      have hi8 : i < 8 := by omega
      go_wp2_with fail
      refine (rMinimal_any _ _).mono ?_
      rintro e w1 ⟨v1, rfl, hv1, hu1⟩
      rw [mres_mp i hi8] at hv1
      have HP1 : Hid (PolyV w w1 _ (GG i)) := ⟨own_upd HP.out.1 hu1, HP.out.2⟩
      have HS1 := Lib.hid (own_upd HS.out hu1)
      have HL1 : Hid (∀ j, j < i → ∃ v, L[j]? = some v ∧ PolyV w w1 v (mp j)) := fun j hj => by
        obtain ⟨v, h1, h2⟩ := HL.out j hj
        exact ⟨v, h1, own_upd h2.1 hu1, h2.2⟩
      have HV1 : Hid (PolyV w w1 v1 (mp i)) := ⟨own_more hv1.1 HU.out.size, hv1.2⟩
      have HU1 := Lib.hid (HU.out.trans hu1)
      clear HP HS HL HU hv1 hu1
      go_wp2_with fail
      go_loopw [7, 8] (fun kn j wr => ∃ q : Nat, q ≤ i ∧ kn = .bool false ∧ j = .int .i64 (q : Int) ∧ Hid (Upd noBlock w1 wr)) (fun _ j _ => i - (intOf j).toNat)
      case atStart => exact ⟨0, Nat.zero_le _, rfl, rfl, Upd.refl _ _⟩
      case round =>
        obtain ⟨q, hq, rfl, rfl, HQ⟩ := hrel
        have HP2 : Hid (PolyV w wr _ (GG i)) := ⟨own_upd HP1.out.1 HQ.out, HP1.out.2⟩
        have HS2 := Lib.hid (own_upd HS1.out HQ.out)
        have HL2 : Hid (∀ j, j < i → ∃ v, L[j]? = some v ∧ PolyV w wr v (mp j)) := fun j hj => by
          obtain ⟨v, h1, h2⟩ := HL1.out j hj
          exact ⟨v, h1, own_upd h2.1 HQ.out, h2.2⟩
        have HV2 : Hid (PolyV w wr v1 (mp i)) := ⟨own_upd HV1.out.1 HQ.out, HV1.out.2⟩
        obtain ⟨sa, sc, rfl, sm, sl, scell⟩ := own_slots HS2.out
        obtain ⟨a1, c1, rfl, hi1', m1, _⟩ := own_ints HV2.out.1
        have HI1 := Lib.hid hi1'
        clear hi1'
        by_cases hqi : q < i
        · obtain ⟨g, rfl, _, hcell⟩ := scell (by omega)
          obtain ⟨u, hu, hpu⟩ := HL2.out q hqi
          have cc := hcell q u hu
          obtain ⟨a2, c2, rfl, hi2', m2, _⟩ := own_ints hpu.1
          have HI2 := Lib.hid hi2'
          have HNE := Lib.hid (mp_apart i q hi8 hqi)
          clear scell hcell hu hpu hi2'
          go_wp2_with fail
          refine (same_no _ _ _ _ _ _ _ _ _ _ _ HI2.out HI1.out m2 HNE.out).mono ?_
          rintro e w2 ⟨rfl, hu2⟩
          have HQ2 := Lib.hid (HQ.out.trans hu2)
          clear hu2
          go_wp2_with fail
          go_roundw
          case rel => exact ⟨q + 1, by omega, rfl, by go_num, HQ2⟩
          case measure => simp [intOf]; omega
        · obtain rfl : q = i := by omega
          obtain ⟨a3, c3, rfl, hi3, m3, _⟩ := own_ints HP2.out.1
          have HS3 := Lib.hid (HS2.out.alloc (.cells #[.slice a1 (exps (mp q)).length c1] 59))
          have HUA := Lib.hid ((HU1.out.trans HQ.out).alloc (.cells #[.slice a1 (exps (mp q)).length c1] 59))
          have hun := (Upd.refl noBlock wr).alloc (.cells #[.slice a1 (exps (mp q)).length c1] 59)
          have HP3 : Hid (PolyV w (wr.alloc (.cells #[.slice a1 (exps (mp q)).length c1] 59)) _ (GG q)) := ⟨own_upd HP2.out.1 hun, HP2.out.2⟩
          have HV3 : Hid (PolyV w (wr.alloc (.cells #[.slice a1 (exps (mp q)).length c1] 59)) _ (mp q)) := ⟨own_upd HV2.out.1 hun, HV2.out.2⟩
          have HL3 : Hid (∀ j, j < q → ∃ v, L[j]? = some v ∧ PolyV w (wr.alloc (.cells #[.slice a1 (exps (mp q)).length c1] 59)) v (mp j)) := fun j hj => by
            obtain ⟨v, h1, h2⟩ := HL2.out j hj
            exact ⟨v, h1, own_upd h2.1 hun, h2.2⟩
          have HSL := Lib.hid sl
          have hsz := (HU1.out.trans HQ.out).size
          have HSZ := Lib.hid hsz
          have HI8 := Lib.hid hi8
          clear scell sl hi3 hun HP2 HS2 HL2 HV2 HP1 HS1 HL1 HV1 hsz
          generalize (exps (mp q)).length = n1 at *
          generalize (exps (GG q)).length = n3 at *
          go_wp2_with (at_builtin; refine wpList_append_own_at _ rfl (.tmp 35) (.tmp 37) _ rfl w.heap.size 59 i1 _ 1 24 Tryz.underlying163 hi1 hz0 hz1 hz2 rfl (by omega) _ q L rfl HS3.out ⟨wr.heap.size, 0, none⟩ 1 1 [.slice a1 n1 c1] rfl rfl (cell_one_new _ _ _) (slot_one a1 n1 c1) (by unfold maxLen; have := HI8.out; omega) (by have := HI8.out; omega) (by have := HSZ.out; simp; omega) ?_; intro sv4 w4 own g _ _; have HS4 := Lib.hid own; have HG4 := Lib.hid g; clear own g)
          have HP4 : Hid (PolyV w w4 _ (GG q)) := ⟨own_far HP3.out.1 HS3.out HG4.out, HP3.out.2⟩
          have HV4 : Hid (PolyV w w4 _ (mp q)) := ⟨own_far HV3.out.1 HS3.out HG4.out, HV3.out.2⟩
          have HL4 : Hid (∀ j, j < q + 1 → ∃ v, (L ++ [.slice a1 n1 c1])[j]? = some v ∧ PolyV w w4 v (mp j)) := fun j hj => by
            rcases Nat.lt_or_ge j q with h1 | h1
            · obtain ⟨v, h2, h3⟩ := HL3.out j h1
              exact ⟨v, by rw [List.getElem?_append_left (by rw [HSL.out]; exact h1)]; exact h2, own_far h3.1 HS3.out HG4.out, h3.2⟩
            · obtain rfl : j = q := by omega
              exact ⟨_, by rw [List.getElem?_append_right (by rw [HSL.out]; exact Nat.le_refl _), HSL.out, Nat.sub_self]; rfl, HV4.out⟩
          have HU4 := Lib.hid (HUA.out.grownOwn HG4.out (fun k hk => (HS3.out.lt k hk).1))
          obtain ⟨a5, c5, e5, hi5, m5, _⟩ := own_ints HP4.out.1
          obtain ⟨a6, c6, e6, hi6, m6, _⟩ := own_ints HV4.out.1
          cases e5
          cases e6
          have d1 := GG_deg q (by have := HI8.out; omega)
          have d2 := mp_deg ⟨q, HI8.out⟩
          have g1 : gat (exps (GG q)) = GG q := gat_exps _ (GG_top q (by have := HI8.out; omega))
          have g2 : gat (exps (mp q)) = mp q := gat_exps _ HV4.out.2
          have HMUL := Lib.hid (rMul2_ok a3 _ c3 w4.heap.size (exps (GG q)) a1 _ c1 w4.heap.size (exps (mp q)) w4 hi5 (Nat.le_refl _) m5 hi6 (Nat.le_refl _) m6 (13 * q) 13 (by rw [g1]; exact d1.1) (by rw [g1]; exact d1.2) (by rw [g2]; exact d2.1) (by rw [g2]; exact d2.2) (by have := HI8.out; omega))
          rw [g1, g2, GG_next] at HMUL
          clear d1 d2 g1 g2 hi5 hi6 HP4 HV4 HP3 HV3 HL3 HS3 HG4 HUA
          go_wp2_with fail
          refine HMUL.out.mono ?_
          rintro e w5 ⟨v5, rfl, hv5, hu5⟩
          have HP5 : Hid (PolyV w w5 v5 (GG (q + 1))) := ⟨own_more hv5.1 HU4.out.size, hv5.2⟩
          have HS5 := Lib.hid (own_upd HS4.out hu5)
          have HL5 : Hid (∀ j, j < q + 1 → ∃ v, (L ++ [.slice a1 (exps (mp q)).length c1])[j]? = some v ∧ PolyV w w5 v (mp j)) := fun j hj => by
            obtain ⟨v, h1, h2⟩ := HL4.out j hj
            exact ⟨v, h1, own_upd h2.1 hu5, h2.2⟩
          have HU5 := Lib.hid (HU4.out.trans hu5)
          clear hv5 hu5 HS4 HL4 HU4 HMUL
          go_wp2_with fail
          go_roundw
          case rel => exact ⟨q + 1, _, by omega, by go_num, HP5, HS5, HL5, HU5⟩
          case measure => simp [intOf]; omega
    · obtain rfl : i = t := by omega
      have hlt : ¬ (2 * (i : Int) + 1 < 2 * (i : Int)) := by omega
      go_wp2_with fail
      go_ret
      exact ⟨_, rfl, HP.out, HU.out⟩
end Go.Proofs.YtnppjfaecnikpaaGreatDoor.Doc
