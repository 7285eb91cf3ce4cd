/- ParityBrings. -/
import Derived.Test.YtkjajmhanhbkdaaTj
import Derived.Deep.CutRange
import Derived.DataShut
namespace Go.Proofs.Ytkjajmhanhbkdaa
open Go.RowKit

theorem foldl_xor (L : List ByteArray) (i : Nat) (b : UInt8) : L.foldl (fun b s => b ^^^ s.data.toList.getD i 0) b = b ^^^ xb L i := by
  unfold xb
  induction L generalizing b with
  | nil => simp
  | cons s L ih => rw [List.foldl_cons, List.foldl_cons, ih, ih (0 ^^^ _)]; simp [UInt8.xor_assoc]
theorem xb_append (A B : List ByteArray) (i : Nat) : xb (A ++ B) i = xb A i ^^^ xb B i := by
  show (A ++ B).foldl _ 0 = _
  rw [List.foldl_append, foldl_xor]; rfl
theorem xb_one (s : ByteArray) (i : Nat) : xb [s] i = s.data.toList.getD i 0 := by simp [xb]
theorem xorL_getD (x : Int) (L : List ByteArray) (i : Nat) (hi : i < xsz x) : (xorL x L).getD i 0 = xb L i := by
  unfold xorL
  rw [List.getD_eq_getElem?_getD, List.getElem?_map, List.getElem?_range hi]; rfl
theorem xorL_length (x : Int) (L : List ByteArray) : (xorL x L).length = xsz x := by simp [xorL]
/-- the parity of the others and of the parity -/
theorem brings (x : Int) (A B : List ByteArray) (q : ByteArray) (hq : ∃ L, q = ⟨(xorL x L).toArray⟩) : xorL x (A ++ B ++ [⟨(xorL x (A ++ [q] ++ B)).toArray⟩]) = q.data.toList := by
  obtain ⟨L, rfl⟩ := hq
  show _ = xorL x L
  apply List.ext_getElem
  · rw [xorL_length, xorL_length]
  · intro i h1 h2
    rw [xorL_length] at h1
    have e : ∀ M, ∀ h : i < (xorL x M).length, (xorL x M)[i]'h = xb M i := fun M h => by
      rw [← xorL_getD x M i h1, List.getD_eq_getElem?_getD, List.getElem?_eq_getElem h]; rfl
    rw [e, e, xb_append, xb_one, xb_append]
    show xb A i ^^^ xb B i ^^^ (xorL x (A ++ [⟨(xorL x L).toArray⟩] ++ B)).getD i 0 = _
    rw [xorL_getD x _ i h1, xb_append, xb_append, xb_one]
    show xb A i ^^^ xb B i ^^^ (xb A i ^^^ (xorL x L).getD i 0 ^^^ xb B i) = _
    rw [xorL_getD x _ i h1]
    generalize xb A i = p
    generalize xb B i = r
    generalize xb L i = t
    rw [← UInt8.toNat_inj]
    simp only [UInt8.toNat_xor]
    have c : ∀ a b : Nat, a ^^^ (a ^^^ b) = b := fun a b => by rw [← Nat.xor_assoc, Nat.xor_self, Nat.zero_xor]
    rw [Nat.xor_comm (p.toNat ^^^ t.toNat) r.toNat, Nat.xor_assoc, c, c]
/-- each payload alone -/
def allQ (x : Int) (Ss : List ByteArray) : List ByteArray := Ss.map fun s => ⟨(xorL x [s]).toArray⟩
theorem allQ_len (x : Int) (Ss : List ByteArray) : (allQ x Ss).length = Ss.length := by simp [allQ]
theorem allQ_fit (x : Int) (Ss : List ByteArray) : ∀ s ∈ allQ x Ss, s.size ≤ maxLen := by
  intro s hs
  simp only [allQ, List.mem_map] at hs
  obtain ⟨t, _, rfl⟩ := hs
  have h1 : (ByteArray.mk (xorL x [t]).toArray).size = (xorL x [t]).length := by simp [ByteArray.size]
  rw [h1, xorL_length]
  have := xsz_le x
  unfold maxLen; omega
theorem allQ_succ (x : Int) (Ss : List ByteArray) (k : Nat) (h : k < Ss.length) : allQ x (Ss.take (k + 1)) = allQ x (Ss.take k) ++ [⟨(xorL x [Ss.getD k ⟨#[]⟩]).toArray⟩] := by
  unfold allQ
  rw [takeS_snoc Ss k h, List.map_append]; rfl
/-- an early end: a size out of bounds, or no payload -/
theorem brings_none (x : Int) (h : x ≤ 2048) : (((xorL x []).length : Nat) : Int) = max x 0 := by
  rw [xorL_length]; unfold xsz; omega
set_option maxRecDepth 100000 in
set_option maxHeartbeats 3200000 in
theorem brings_early (x : Int) (a : Option Addr) (n c : Nat) (l : Int) (w : World) (h : x < 0 ∨ (0 ≤ x ∧ 2048 < x) ∨ (0 ≤ x ∧ x ≤ 2048 ∧ n = 0)) :
    Calls Try.prog 5 #[.int .i64 x, .slice a n c, .int .i64 l] w fun e w' => e = .returned (.bool true) ∧ Upd noBlock w w' := by
  have HX := Lib.hid (fun w => xor_any x none 0 0 0 [] w ⟨Row1.nil _ _ _, fun s hs => by cases hs⟩ (Nat.zero_le _) (by omega))
  have hsz : (ByteArray.mk (xorL x []).toArray).size = (xorL x []).length := by simp [ByteArray.size]
  rcases h with h | ⟨h0, h⟩ | ⟨h0, h1, rfl⟩
  · have HE := brings_none x (by omega)
    rw [← hsz] at HE
    generalize (ByteArray.mk (xorL x []).toArray) = q at *
    have HEE := Lib.hid HE
    clear hsz HE
    go_enter Try.func5, Try.ntmps5
    go_wp2_with (first
      | (go_at_call 10; refine (speaks7_any _).mono ?_; rintro e w1 ⟨rfl, u1⟩; have U1 := Lib.hid u1; clear u1)
      | (go_at_call 16; refine (HX.out _).mono ?_; rintro e w2 ⟨rfl, u2⟩; have U2 := Lib.hid u2; clear u2))
    have hb : (decide (2048 < x) || (((q.size : Nat) : Int) == 0)) = true := by
      have := HEE.out
      rw [show (((q.size : Nat) : Int) == 0) = true from beq_iff_eq.2 (by omega), Bool.or_true]
    go_ret
    exact ⟨congrArg (fun b => Ending.returned (Value.bool b)) hb, U1.out.trans U2.out⟩
  · go_enter Try.func5, Try.ntmps5
    go_wp2_with (first
      | (go_at_call 10; refine (speaks7_any _).mono ?_; rintro e w1 ⟨rfl, u1⟩; have U1 := Lib.hid u1; clear u1)
      | (go_at_call 16; refine (HX.out _).mono ?_; rintro e w2 ⟨rfl, u2⟩; have U2 := Lib.hid u2; clear u2))
    go_ret
    exact ⟨rfl, U1.out⟩
  · go_enter Try.func5, Try.ntmps5
    go_wp2_with (first
      | (go_at_call 10; refine (speaks7_any _).mono ?_; rintro e w1 ⟨rfl, u1⟩; have U1 := Lib.hid u1; clear u1)
      | (go_at_call 16; refine (HX.out _).mono ?_; rintro e w2 ⟨rfl, u2⟩; have U2 := Lib.hid u2; clear u2))
    have hb : (decide (2048 < x) || ((((xorL x []).length : Nat) : Int) == x)) = true := by
      have := brings_none x h1
      rw [show ((((xorL x []).length : Nat) : Int) == x) = true from beq_iff_eq.2 (by omega), Bool.or_true]
    go_ret
    exact ⟨congrArg (fun b => Ending.returned (Value.bool b)) hb, U1.out.trans U2.out⟩
set_option maxRecDepth 100000 in
set_option maxHeartbeats 3200000 in
theorem brings_any (x : Int) (a : Option Addr) (n c : Nat) (l : Int) (Ss : List ByteArray) (w : World) (hx0 : 0 ≤ x) (hx1 : x ≤ 2048) (hn0 : 0 < n) (hr : Strs w w.heap.size a n Ss) (hn : n ≤ 8796093021952) (hl0 : -9223372036854775808 ≤ l) (hl1 : l ≤ 9223372036854775807) :
    Calls Try.prog 5 #[.int .i64 x, .slice a n c, .int .i64 l] w fun e w' => e = .returned (.bool true) ∧ Upd noBlock w w' := by
  obtain ⟨i0, hi0, hz0, hz1, hz2⟩ := strParts7
  have HS := Lib.hid hr
  have HN := Lib.hid hn
  have HL := Lib.hid hr.len
  have hnb : n ≤ 9223372036854775807 := by omega
  have en : ((n : Int) == 0) = false := beq_eq_false_iff_ne.2 (by omega)
  clear hr hn
  go_enter Try.func5, Try.ntmps5
  go_wp2_with (first
    | (go_at_call 10; refine (speaks7_any _).mono ?_; rintro e w1 ⟨rfl, u1⟩; have U1 := Lib.hid u1; clear u1))
  go_loopw [7, 8] (fun v i wr => ∃ k : Nat, k ≤ n ∧ i = .int .i64 (k : Int) ∧ Hid (OwnS wr w1.heap.size 9 v (allQ x (Ss.take k))) ∧ Hid (Upd noBlock w1 wr)) (fun _ i _ => n - (intOf i).toNat)
  case atStart => exact ⟨0, Nat.zero_le _, rfl, OwnS.nil _ _ _, Upd.refl _ _⟩
  case round =>
    obtain ⟨k, hk, rfl, HO, HU⟩ := hrel
    have HSr := Lib.hid ((HS.out.grow U1.out (Nat.le_refl _)).grow HU.out U1.out.size)
    by_cases h0 : k < n
    · obtain ⟨b, off, hab, hb, hc⟩ := HSr.out.cell (by omega)
      subst hab
      have hsz := HSr.out.at h0
      have HT := Lib.hid (allQ_succ x Ss k (by have := HL.out; omega))
      have HQL : Hid ((allQ x (Ss.take k)).length = k) := by show _ = _; rw [allQ_len, List.length_take, HL.out]; omega
      obtain ⟨s, hs⟩ : ∃ s, Ss.getD k ⟨#[]⟩ = s := ⟨_, rfl⟩
      have c1 : wr.cell? ⟨b, off + k, none⟩ = some (.string s) := by rw [← hs]; exact hc k h0
      rw [hs] at hsz HT
      have HF := Lib.hid hsz
      clear hc hs hsz
      generalize allQ x (Ss.take k) = Q at *
      have HO2 := Lib.hid (ownsRow_grow HO.out ((Upd.refl noBlock wr).alloc (.cells #[.string s] 9)))
      have HU2 := Lib.hid (HU.out.alloc (.cells #[.string s] 9))
      have H1 := Lib.hid (Strs.one wr 9 s HF.out)
      go_wp2_with (first
        | (go_at_call 16; refine (xor_any x (some ⟨wr.heap.size, 0, none⟩) 1 1 _ [s] _ H1.out (by rw [World.size_alloc]; omega) (by omega)).mono ?_; rintro e w2 ⟨rfl, u2⟩; have HO3 := Lib.hid (ownsRow_grow (ownsRow_grow HO2.out u2) ((Upd.refl noBlock w2).alloc (.cells #[.string ⟨(xorL x [s]).toArray⟩] 9))); have HU3 := Lib.hid ((HU2.out.trans u2).alloc (.cells #[.string ⟨(xorL x [s]).toArray⟩] 9)); have HI := Lib.hid (Row1.one w2 9 (.string ⟨(xorL x [s]).toArray⟩)); have z2 : Hid (w1.heap.size ≤ w2.heap.size) := (HU2.out.trans u2).size; clear u2)
        | (at_builtin; refine wpList_append_vals _ rfl (.tmp 39) (.tmp 47) _ rfl w1.heap.size 9 i0 _ 16 Try.underlying34 hi0 hz0 hz1 hz2 rfl _ Q.length (Q.map Value.string) rfl HO3.out (w2.heap.size + 1) (some ⟨w2.heap.size, 0, none⟩) 1 1 [.string ⟨(xorL x [s]).toArray⟩] rfl HI.out (by intro u hu; simp at hu; subst hu; rfl) (by have := HQL.out; have := HN.out; simp only [maxLen]; omega) (by have := HQL.out; have := HN.out; omega) (by have := z2.out; simp; omega) ?_; intro v3 w3 hown3 hg3 _))
      go_roundw
      case rel =>
        refine ⟨k + 1, by omega, by go_num, ?_, HU3.out.grownOwn hg3 (fun i hi => (HO3.out.lt i hi).1)⟩
        rw [HT.out]
        exact OwnS.snoc hown3
      case measure => simp [intOf]; omega
    · obtain rfl : k = n := by omega
      have e : Ss.take k = Ss := List.take_of_length_le (by have := HL.out; omega)
      rw [e] at HO
      have hql : (allQ x Ss).length = k := by rw [allQ_len, HL.out]
      obtain ⟨a7, c7, hv, r7, hb7⟩ := HO.out.sl (allQ_fit x Ss)
      rw [hql] at hv r7
      subst hv
      have H7 := Lib.hid r7
      have HQF := Lib.hid (allQ_fit x Ss)
      have HQL := Lib.hid hql
      have HQX : Hid (∀ q ∈ allQ x Ss, ∃ L, q = ⟨(xorL x L).toArray⟩) := by
        intro q hq
        simp only [allQ, List.mem_map] at hq
        obtain ⟨t, _, rfl⟩ := hq
        exact ⟨_, rfl⟩
      clear e r7 hb7 hql
      generalize allQ x Ss = Q at *
      obtain ⟨ml', hml⟩ : ∃ ml' : Nat, (max l 0) = (ml' : Int) := ⟨(max l 0).toNat, by omega⟩
      obtain ⟨p, hp⟩ : ∃ p, ml' % k = p := ⟨_, rfl⟩
      have hpk : p < k := by rw [← hp]; exact Nat.mod_lt _ hn0
      have hmod : (ml' : Int) % (k : Int) = (p : Int) := by rw [← Int.natCast_emod, hp]
      have HML := Lib.hid hml
      have hmb : ml' ≤ 9223372036854775807 := by omega
      clear hml hp
      have HKC : Hid (k ≤ c7) := by
        have h := HO.out.2
        rcases h with ⟨h1, h2⟩ | ⟨g, cap, cur, h1, hb, hg, hnc, _⟩
        · simp only [Value.slice.injEq] at h1; show _ ≤ _; omega
        · simp only [Value.slice.injEq] at h1
          have := HQL.out
          show _ ≤ _; omega
      go_upto_if 50 with fail
      go_cut [2] from 49 to 77 (fun s2 wx => s2 = .int .i64 (ml' : Int) ∧ wx = wr)
      case first =>
        by_cases hl : l < 0
        · have e0 : Hid (ml' = 0) := by have := HML.out; show _ = _; omega
          go_wp2_with fail
          go_meet
          exact ⟨by rw [e0.out]; rfl, rfl⟩
        · have e0 : Hid (l = (ml' : Int)) := by have := HML.out; show _ = _; omega
          go_wp2_with fail
          go_meet
          exact ⟨by rw [e0.out], rfl⟩
      case rest =>
        obtain ⟨rfl, rfl⟩ := hcut
        obtain ⟨wb, rfl⟩ : ∃ wb : World, wb = wc := ⟨_, rfl⟩
        go_wp2_with fail
        rw [hmod]
        have hlo : ∀ w : World, (Instr.sliceAt 34 (.slice a7 k c7) none (some (.int .i64 (p : Int))) none).run Try.prog w = .ok (.slice (if c7 = 0 then a7 else a7.map (·.add 0)) p c7) w := fun w => run_slice_lo1 w 34 9 i0 Try.underlying34 hi0 a7 k c7 p (by omega) HKC.out
        have hhi : ∀ w : World, (Instr.sliceAt 34 (.slice a7 k c7) (some (.int .i64 ((p : Int) + 1))) none none).run Try.prog w = .ok (.slice (if c7 = p + 1 then a7 else a7.map (·.add (p + 1))) (k - (p + 1)) (c7 - (p + 1))) w := fun w => run_slice_hi1 w 34 9 i0 Try.underlying34 hi0 hz1 a7 k c7 (p + 1) (by omega)
        have R1 := Lib.hid (Row1.head (c := c7) wb H7.out.row (Nat.le_of_lt hpk))
        have R2 := Lib.hid (Row1.tail (c := c7) wb H7.out.row (show p + 1 ≤ k by omega) HKC.out)
        generalize (if c7 = 0 then a7 else a7.map (·.add 0)) = A1 at *
        generalize (if c7 = p + 1 then a7 else a7.map (·.add (p + 1))) = A2 at *
        have HP := Lib.hid hpk
        have hwp : IntKind.i64.wrap ((p : Int) + 1) = (p : Int) + 1 := by rw [IntKind.wrap_i64]; omega
        go_cut [9] from 49 to 77 (fun s9 wx => Hid (OwnS wx wb.heap.size 9 s9 (Q.take p ++ Q.drop (p + 1))) ∧ Hid (Upd noBlock wb wx))
        case first =>
          go_region_law (first
            | (refine step_append_vals rfl (.tmp 55) (.tmp 58) 34 rfl wb.heap.size 9 i0 _ 16 Try.underlying34 hi0 hz0 hz1 hz2 rfl _ 0 [] rfl (OwnS.empty wb.drew 9) wb.heap.size A1 p c7 ((Q.map Value.string).take p) rfl (R1.out.grow ((Upd.refl noBlock wb).drew.alloc _) (Nat.le_refl _)) (fun u hu => strs_one Q u (List.mem_of_mem_take hu)) (by have := HN.out; have := HP.out; simp only [maxLen]; omega) (by have := HN.out; have := HP.out; omega) (by simp) ?_; intro v1 wv1 hown1 hg1; have u1 := ((Upd.refl noBlock wb).drew.alloc (.cells #[] 9)).grownOwn hg1 (fun i hi => ((OwnS.empty wb.drew 9).lt i hi).1); simp only [Nat.zero_add, List.nil_append] at hown1)
            | (refine step_append_vals rfl (.tmp 59) (.tmp 63) 34 rfl wb.heap.size 9 i0 _ 16 Try.underlying34 hi0 hz0 hz1 hz2 rfl _ p ((Q.map Value.string).take p) rfl hown1 wb.heap.size A2 (k - (p + 1)) (c7 - (p + 1)) ((Q.map Value.string).drop (p + 1)) rfl (R2.out.grow u1 (Nat.le_refl _)) (fun u hu => strs_one Q u (List.mem_of_mem_drop hu)) (by have := HN.out; have := HP.out; simp only [maxLen]; omega) (by have := HN.out; have := HP.out; omega) u1.size ?_; intro v2 wv2 hown2 hg2))
          go_wp2
          go_meet
          refine ⟨?_, u1.grownOwn hg2 (fun i hi => (hown1.lt i hi).1)⟩
          have e1 : (Q.take p).length = p := by rw [List.length_take, HQL.out]; omega
          have e2 : (Q.drop (p + 1)).length = k - (p + 1) := by rw [List.length_drop, HQL.out]
          rw [List.map_take.symm, List.map_drop.symm, ← e1] at hown2
          refine OwnS.join e2 ?_
          rw [e1] at hown2 ⊢
          exact hown2
        case rest =>
          obtain ⟨HO9, HU9⟩ := hcut
          obtain ⟨wd, rfl⟩ : ∃ wd : World, wd = wc := ⟨_, rfl⟩
          have hfit : ∀ s ∈ Q.take p ++ Q.drop (p + 1), s.size ≤ maxLen := fun s hs => by
            rcases List.mem_append.1 hs with h | h
            · exact HQF.out s (List.mem_of_mem_take h)
            · exact HQF.out s (List.mem_of_mem_drop h)
          have hlen9 : (Q.take p ++ Q.drop (p + 1)).length = k - 1 := by rw [List.length_append, List.length_take, List.length_drop, HQL.out]; omega
          have HL9 := Lib.hid hlen9
          obtain ⟨q, hq⟩ : ∃ q, Q.getD p ⟨#[]⟩ = q := ⟨_, rfl⟩
          obtain ⟨qq, hqq⟩ : ∃ qq : ByteArray, qq = ⟨(xorL x Q).toArray⟩ := ⟨_, rfl⟩
          have hQ : Q = Q.take p ++ [q] ++ Q.drop (p + 1) := by
            rw [← hq, ← takeS_snoc Q p (by rw [HQL.out]; exact HP.out), List.take_append_drop]
          have HEQ : Hid ((⟨(xorL x (Q.take p ++ Q.drop (p + 1) ++ [qq])).toArray⟩ : ByteArray) = q) := by
            have hb := brings x (Q.take p) (Q.drop (p + 1)) q (HQX.out q (by rw [← hq, List.getD_eq_getElem?_getD, List.getElem?_eq_getElem (by rw [HQL.out]; exact HP.out)]; exact List.getElem_mem _))
            rw [← hQ, ← hqq] at hb
            show _ = _
            apply ByteArray.ext
            rw [hb]
          have HQQ := Lib.hid hqq
          have hqqs : qq.size ≤ maxLen := by
            have h1 : qq.size = (xorL x Q).length := by rw [hqq]; simp [ByteArray.size]
            rw [h1, xorL_length]
            have := xsz_le x
            unfold maxLen; omega
          have hfit2 : Hid (∀ s ∈ Q.take p ++ Q.drop (p + 1) ++ [qq], s.size ≤ maxLen) := fun s hs => by
            rcases List.mem_append.1 hs with h | h
            · exact hfit s h
            · rw [List.mem_singleton.1 h]; exact hqqs
          obtain ⟨g, off, hab, hg, hc⟩ := H7.out.cell (by omega)
          have HC : Hid (∀ wz, Upd noBlock wb wz → wz.cell? ⟨g, off + p, none⟩ = some (.string q)) := fun wz hz => by
            rw [← hq]; exact (World.cell?_of_block (hz.block g hg (fun h => h))).trans (hc p HP.out)
          subst hab
          have cq := HC.out wd HU9.out
          clear hc hq hqq hQ hqqs hfit hlen9
          generalize Q.take p ++ Q.drop (p + 1) = L9 at *
          have HXA := Lib.hid (xor_any x (some ⟨g, off, none⟩) k c7 _ Q wd.drew (H7.out.grow HU9.out.drew (Nat.le_refl _)) HU9.out.size (by have := HN.out; omega))
          rw [← HQQ.out] at HXA
          have hz9 : wb.heap.size ≤ wd.heap.size := HU9.out.size
          have H63 : Hid (L9.length + 1 ≤ maxLen ∧ (L9.length + 1) * 16 ≤ 140737488355328) := by
            rw [HL9.out]; have := HN.out; show _ ∧ _; simp only [maxLen]; omega
          go_wp2_with fail
          go_region_law (first
            | (have hu6 := u6; go_simp; go_at_call 16; refine (xor_any x a6 _ c6 _ (L9 ++ [qq]) _ r6 (Nat.le_refl _) (by have := HL9.out; have := HN.out; omega)).mono ?_; rw [HEQ.out]; rintro e w7 ⟨rfl, u7⟩; have cq7 := HC.out w7 (u6.trans u7))
            | (have hu5 := u5; refine step_append_vals rfl (.tmp 66) (.tmp 70) 34 rfl wb.heap.size 9 i0 _ 16 Try.underlying34 hi0 hz0 hz1 hz2 rfl _ L9.length (L9.map Value.string) rfl (ownsRow_grow HO9.out (((Upd.refl noBlock wd).drew.trans u5).trans ((Upd.refl noBlock w5).alloc (.cells #[.string qq] 9)))) (w5.heap.size + 1) (some ⟨w5.heap.size, 0, none⟩) 1 1 [.string qq] rfl (Row1.one w5 9 _) (by intro u hu; simp at hu; subst hu; rfl) H63.out.1 H63.out.2 (by have := u5.size; simp at this ⊢; omega) ?_; intro v6 w6 hown6 hg6; have u6 := ((HU9.out.drew.trans u5).alloc (.cells #[.string qq] 9)).grownOwn hg6 (fun i hi => (HO9.out.lt i hi).1); have cq6 := HC.out w6 u6; obtain ⟨a6, c6, hv6, r6, -⟩ := OwnS.sl (OwnS.snoc hown6) hfit2.out; rw [List.length_append, List.length_singleton] at hv6 r6; rw [hv6])
            | (go_simp; go_at_call 16; refine HXA.out.mono ?_; rintro e w5 ⟨rfl, u5⟩; have cq5 := HC.out w5 (HU9.out.drew.trans u5); have cq5a := HC.out (w5.alloc (.cells #[.string qq] 9)) ((HU9.out.drew.trans u5).alloc _)))
          all_goals
            go_wp2
            go_ret
            exact ⟨rfl, ((U1.out.trans HU.out).trans u6).trans u7⟩
theorem parityBrings_walk (x : Int) (a : Option Addr) (n c : Nat) (Ss : List ByteArray) (l : Int) (w : World) (_ : (Lit.int .i64 x).wf = true) (hr : Strs w w.heap.size a n Ss) (hn : n ≤ 8796093021952) (wl : (Lit.int .i64 l).wf = true) :
    Calls Try.prog 5 #[.int .i64 x, .slice a n c, .int .i64 l] w fun e w' => e = .returned (.bool true) ∧ Below w.heap.size w w' := by
  obtain ⟨h1, h2⟩ := (Lit.wf_int_iff .i64 l).1 wl
  refine Calls.mono ?_ fun _ _ (h : _ ∧ Upd noBlock w _) => ⟨h.1, h.2.below (fun _ _ h => h)⟩
  by_cases e : x < 0 ∨ (0 ≤ x ∧ 2048 < x) ∨ (0 ≤ x ∧ x ≤ 2048 ∧ n = 0)
  · exact brings_early x a n c l w e
  · exact brings_any x a n c l Ss w (by omega) (by omega) (by omega) hr hn h1 h2
end Go.Proofs.Ytkjajmhanhbkdaa
