/- TopLinear. -/
import Derived.Test.YthabljgefknmgaaDoorIj
import Derived.Test.YthabljgefknmgaaDoorIi
import Derived.Test.YthabljgefknmgaaDoorCb
import Derived.Deep.OwnRows
import Derived.Deep.CutRange
import Derived.BigQuiet
import Derived.Deep.RegionWith
import Derived.Deep.DrawnRows
namespace Go.Proofs.YthabljgefknmgaaDoor
open Go.RowKit Cm
attribute [local go_sem ↓] Go.wp_at_zero Go.wp_at_succ
attribute [local irreducible] Cm.shs Cm.nxt Cm.reg Cm.ext Pm.exps pmul mp GG mpol tl tabA byteStep tailR stepsV stepS remOf textL parT

theorem byteCellsL : (Tryd.prog.info? 5).map (fun i => (i.zero, i.size, i.bytes)) = some (some (.int .u8 0), 1, 1) := by kernel_rfl
/-- the bytes of a xor -/
def xL (l m : List UInt8) : List UInt8 := List.zipWith (· ^^^ ·) l m
def xRow (l m : List UInt8) (k j : Nat) : Value := .int .u8 ((if j < k then (l.getD j 0).toNat ^^^ (m.getD j 0).toNat else 0 : Nat) : Int)
theorem xL_length (l m : List UInt8) (h : l.length = m.length) : (xL l m).length = l.length := by unfold xL; rw [List.length_zipWith]; omega
theorem xL_get (l m : List UInt8) (h : l.length = m.length) (j : Nat) (hj : j < (xL l m).length) : ((xL l m)[j]).toNat = (l.getD j 0).toNat ^^^ (m.getD j 0).toNat := by
  have hl := xL_length l m h
  have hj' : j < (List.zipWith (· ^^^ ·) l m).length := hj
  show ((List.zipWith (· ^^^ ·) l m)[j]'hj').toNat = _
  rw [List.getElem_zipWith, UInt8.toNat_xor, List.getD_eq_getElem?_getD, List.getD_eq_getElem?_getD, List.getElem?_eq_getElem (by omega), List.getElem?_eq_getElem (by omega)]
  rfl
theorem sum3_self : ∀ (l m : List UInt8), l.length = m.length → sum3 l m (xL l m) = List.replicate l.length 0
  | [], [], _ => rfl
  | a :: l, b :: m, h => by
    show (a ^^^ b ^^^ (a ^^^ b)) :: sum3 l m (xL l m) = (0 : UInt8) :: List.replicate l.length 0
    have e : a ^^^ b ^^^ (a ^^^ b) = 0 := UInt8.xor_self
    rw [e, sum3_self l m (by simpa using h)]
  | [], _ :: _, h => by simp at h
  | _ :: _, [], h => by simp at h
theorem ext_lin (l m : List UInt8) (h : l.length = m.length) : ext 0 l ^^^ ext 0 m ^^^ ext 0 (xL l m) = ext 0 (List.replicate l.length 0) := by
  rw [ext_sum3 l m (xL l m) h (by rw [xL_length l m h]; exact h.symm), sum3_self l m h]
theorem upd_cellL {a b : World} (hu : Upd noBlock a b) {g j : Nat} {v : Value} (h : a.cell? ⟨g, j, none⟩ = some v) : b.cell? ⟨g, j, none⟩ = some v :=
  (World.cell?_of_block (hu.block g (World.block_lt_of_cell? a _ h) (fun h => h))).trans h
theorem addr_add0 (g j : Nat) : (⟨g, 0, none⟩ : Addr).add j = ⟨g, j, none⟩ := by
  by_cases h0 : j = 0
  · subst h0; simp [Addr.add]
  · simp [Addr.add, h0]
theorem getD_byte (q : ByteArray) (j : Nat) (h : j < q.size) : q[j] = q.data.toList.getD j 0 := by
  have h' : j < q.data.toList.length := h
  rw [List.getD_eq_getElem?_getD, List.getElem?_eq_getElem h']; rfl

set_option maxRecDepth 100000 in
set_option maxHeartbeats 4000000 in
theorem topLinear_upd (t : Int) (a b : ByteArray) (w : World) (hsa : a.size ≤ 140737488351232) (hsb : b.size ≤ 140737488351232) (hT : Tab w) :
    Calls Tryd.prog 3 #[.int .i64 t, .string a, .string b] w fun e w' => e = .returned (.bool true) ∧ Upd noBlock w w' := by
  have HTU := Lib.hid (fun (x : World) (hx : Upd noBlock w x) => hT.upd hx)
  obtain ⟨n0, hn0⟩ : ∃ n : Nat, n = min (min a.size b.size) 256 := ⟨_, rfl⟩
  have hmin : (if (256 : Int) < (if b.size < a.size then (b.size : Int) else (a.size : Int)) then (256 : Int) else (if b.size < a.size then (b.size : Int) else (a.size : Int))) = (n0 : Int) := by
    split <;> split <;> omega
  have hna : n0 ≤ a.size := by omega
  have hnb : n0 ≤ b.size := by omega
  have hn256 : n0 ≤ 256 := by omega
  have HSM : Hid (∀ (W : World) (s : ByteArray), Upd noBlock w W → s.size ≤ maxLen → Calls Tryd.prog 4 #[.string s] W fun e w' => e = .returned (.int .u32 (ext 0 s.data.toList : Nat)) ∧ W = w') := fun W s hW hs => sum_any s W hs (HTU.out W hW)
  have H9 : Hid (Calls Tryd.prog 4 #[.string ⟨#[49, 50, 51, 52, 53, 54, 55, 56, 57]⟩] w fun e w' => e = .returned (.int .u32 3421780262) ∧ w = w') := by
    have H := sum_any ⟨#[49, 50, 51, 52, 53, 54, 55, 56, 57]⟩ w (by decide) hT
    have e9 : ext 0 (ByteArray.mk #[49, 50, 51, 52, 53, 54, 55, 56, 57]).data.toList = 3421780262 := digits
    rw [e9] at H
    exact H
  have HMIN := Lib.hid hmin
  obtain ⟨tb, htb⟩ : ∃ tb : Bool, decide (t < 1 ∨ 8 < t ∨ n0 < 1) = tb := ⟨_, rfl⟩
  have HTB := Lib.hid htb
  clear hmin hn0 hT htb
  go_enter Tryd.func3, Tryd.ntmps3
  go_upto_region 2 with fail
  rw [HMIN.out]
  clear HMIN
  go_upto_region 4 with (go_at_call 4; refine H9.out.mono ?_; rintro e w1 ⟨rfl, rfl⟩)
  go_cut [35] from 19 to 147 (fun x wx => x = .bool tb ∧ wx = w)
  case first =>
    by_cases h1 : t < 1
    · have e : tb = true := by rw [← HTB.out]; exact decide_eq_true (.inl h1)
      subst e
      go_wp2_with fail
      go_meet
      exact ⟨rfl, rfl⟩
    · by_cases h2 : 8 < t
      · have e : tb = true := by rw [← HTB.out]; exact decide_eq_true (.inr (.inl h2))
        subst e
        go_wp2_with fail
        go_meet
        exact ⟨rfl, rfl⟩
      · by_cases h3 : n0 < 1
        · have e : tb = true := by rw [← HTB.out]; exact decide_eq_true (.inr (.inr h3))
          have h3' : (n0 : Int) < 1 := by omega
          subst e
          go_wp2_with fail
          go_meet
          exact ⟨rfl, rfl⟩
        · have e : tb = false := by rw [← HTB.out]; exact decide_eq_false (fun h => h.elim h1 (fun h => h.elim h2 h3))
          have h3' : ¬ (n0 : Int) < 1 := by omega
          subst e
          go_wp2_with fail
          go_meet
          exact ⟨rfl, rfl⟩
  case rest =>
  obtain ⟨rfl, hwx⟩ := hcut
  subst hwx
  obtain ⟨wa, rfl⟩ : ∃ wa : World, wa = wc := ⟨_, rfl⟩
  go_upto_if 35 with fail
  go_cut [0, 1, 2, 7] from 19 to 147 (fun v0 v1 v2 v7 wx => wx = wa ∧ ∃ (T N : Nat) (A B : ByteArray), v0 = .int .i64 (T : Int) ∧ v1 = .string A ∧ v2 = .string B ∧ v7 = .int .i64 (N : Int) ∧ 1 ≤ T ∧ T ≤ 8 ∧ 1 ≤ N ∧ N ≤ 256 ∧ N ≤ A.size ∧ N ≤ B.size ∧ A.size ≤ 140737488351232 ∧ B.size ≤ 140737488351232)
  case first =>
    cases tb
    · have h := of_decide_eq_false HTB.out
      have ht : t = ((t.toNat : Nat) : Int) := by omega
      have h1 : 1 ≤ t.toNat := by omega
      have h2 : t.toNat ≤ 8 := by omega
      have h3 : 1 ≤ n0 := by omega
      have HT := Lib.hid ht
      clear ht h HTB
      go_wp2_with fail
      go_meet
      exact ⟨rfl, t.toNat, n0, a, b, by rw [← HT.out], rfl, rfl, rfl, h1, h2, h3, hn256, hna, hnb, hsa, hsb⟩
    · go_wp2_with fail
      go_meet
      exact ⟨rfl, 2, 3, ⟨#[97, 98, 99]⟩, ⟨#[120, 121, 122]⟩, rfl, rfl, rfl, rfl, by decide, by decide, by decide, by decide, by decide, by decide, by decide, by decide⟩
  case rest =>
  obtain ⟨hwx, T, N, A, B, rfl, rfl, rfl, rfl, hT1, hT8, hN1, hN256, hNA, hNB, hsA, hsB⟩ := hcut
  subst hwx
  obtain ⟨wb, rfl⟩ : ∃ wb : World, wb = wc := ⟨_, rfl⟩
  clear H9 HTB hsa hsb hna hnb hn256
  obtain ⟨A1, hA1⟩ : ∃ A1, A.extract 0 N = A1 := ⟨_, rfl⟩
  obtain ⟨B1, hB1⟩ : ∃ B1, B.extract 0 N = B1 := ⟨_, rfl⟩
  have hA1z : A1.size = N := by rw [← hA1, ByteArray.size_extract]; omega
  have hB1z : B1.size = N := by rw [← hB1, ByteArray.size_extract]; omega
  have hNa : (N : Int) ≤ (A.size : Int) := by omega
  have hNb : (N : Int) ≤ (B.size : Int) := by omega
  obtain ⟨l, hl⟩ : ∃ l, A1.data.toList = l := ⟨_, rfl⟩
  obtain ⟨m, hm⟩ : ∃ m, B1.data.toList = m := ⟨_, rfl⟩
  have hll : l.length = N := by rw [← hl]; exact hA1z
  have hml : m.length = N := by rw [← hm]; exact hB1z
  have hlm : l.length = m.length := by rw [hll, hml]
  have HXL : Hid ((xL l m).length = N) := by show _ = _; rw [xL_length l m hlm, hll]
  have HXG : Hid (∀ j (hj : j < (xL l m).length), xRow l m N j = .int .u8 (((xL l m)[j]).toNat : Int)) := fun j hj => by
    unfold xRow
    rw [if_pos (by rw [← HXL.out]; exact hj), xL_get l m hlm j hj]
  obtain ⟨X, hX⟩ : ∃ X : ByteArray, X = ⟨(xL l m).toArray⟩ := ⟨_, rfl⟩
  have hXz : X.size = N := by rw [hX]; exact HXL.out
  have HX := Lib.hid hX
  have hmk : ∀ w : World, (Instr.makeSlice 24 (.int .i64 (N : Int)) (.int .i64 (N : Int))).run Tryd.prog w = .ok (.slice (some ⟨w.heap.size, 0, none⟩) N N) (w.alloc (.cells (madeCells #[.int .u8 0] N) 5)) :=
    run_make_row' (P := Tryd.prog) 24 5 (.int .u8 0) 1 Tryd.underlying24 byteCellsL rfl .i64 .i64 N (by omega) (by omega)
  obtain ⟨O, HO⟩ : ∃ O : Obj, Hid (O = .cells (madeCells #[.int .u8 0] N) 5) := ⟨_, rfl⟩
  rw [← HO.out] at hmk
  have HMK := Lib.hid hmk
  have HRB : Hid (∀ w : World, (w.alloc O).rowIs w.heap.size 5 N (xRow l m 0)) := fun w => by
    rw [HO.out]
    exact (World.rowIs_made w (.int .u8 0) N 5).congr (fun i _ => by simp [xRow])
  have hxb : ∀ k, k < N → ∀ (h1 : k < A1.size) (h2 : k < B1.size), bits .xor .u8 ((A1[k]'h1).toNat : Int) ((B1[k]'h2).toNat : Int) = (((l.getD k 0).toNat ^^^ (m.getD k 0).toNat : Nat) : Int) := fun k _ h1 h2 => by
    rw [u8_xor_nat _ _ (u8_lt _) (u8_lt _), getD_byte A1 k h1, getD_byte B1 k h2, hl, hm]
  have HXB := Lib.hid hxb
  -- Encode, Parity
  obtain ⟨pn, hpn⟩ : ∃ pn, (13 * T + 7) / 8 = pn := ⟨_, rfl⟩
  have hp1 := parT_length T l
  have hp2 := parT_length T m
  have hp3 := parT_length T (xL l m)
  rw [hpn] at hp1 hp2 hp3
  have hlin : parT T (xL l m) = xL (parT T l) (parT T m) := parT_lin T hT1 hT8 l m hlm
  obtain ⟨P1, hP1⟩ : ∃ P : ByteArray, P = ⟨(parT T l).toArray⟩ := ⟨_, rfl⟩
  obtain ⟨P2, hP2⟩ : ∃ P : ByteArray, P = ⟨(parT T m).toArray⟩ := ⟨_, rfl⟩
  obtain ⟨P3, hP3⟩ : ∃ P : ByteArray, P = ⟨(parT T (xL l m)).toArray⟩ := ⟨_, rfl⟩
  have hP1z : P1.size = pn := by rw [hP1]; exact hp1
  have hP2z : P2.size = pn := by rw [hP2]; exact hp2
  have hP3z : P3.size = pn := by rw [hP3]; exact hp3
  have HPX : Hid (∀ k, k < pn → ∀ (h1 : k < P1.size) (h2 : k < P2.size) (h3 : k < P3.size), bits .xor .u8 ((P1[k]'h1).toNat : Int) ((P2[k]'h2).toNat : Int) = ((P3[k]'h3).toNat : Int)) := fun k hk h1 h2 h3 => by
    rw [u8_xor_nat _ _ (u8_lt _) (u8_lt _), getD_byte P1 k h1, getD_byte P2 k h2, getD_byte P3 k h3, hP1, hP2, hP3]
    show (((parT T l).getD k 0).toNat ^^^ ((parT T m).getD k 0).toNat : Nat) = ((((parT T (xL l m)).getD k 0).toNat : Nat) : Int)
    rw [hlin, ← xL_get (parT T l) (parT T m) (by rw [hp1, hp2]) k (by rw [xL_length _ _ (by rw [hp1, hp2]), hp1]; exact hk), List.getD_eq_getElem?_getD, List.getElem?_eq_getElem (by rw [xL_length _ _ (by rw [hp1, hp2]), hp1]; exact hk)]
    rfl
  have HNEW : Hid (∀ (W : World) (c : Nat), W.heap.size = c → Calls Tryd.prog 5 #[.int .i64 (T : Int), .int .i64 (N : Int)] W fun e w' => e = .returned (.tuple #[.pointer (some ⟨c, 0, none⟩), .int .i64 0]) ∧ CodeP w' c T (N : Int) ∧ Upd noBlock W w') := fun W c hc => by
    subst hc
    refine (new_any T N W hT1 hT8 hN1 hN256).mono ?_
    rintro e w1 ⟨h1, h2, h3⟩
    exact ⟨h1, .inl h2, h3⟩
  have HEN1 : Hid (∀ (W : World) (c : Nat), CodeP W c T (N : Int) → Calls Tryd.prog 6 #[.pointer (some ⟨c, 0, none⟩), .string A1] W fun e w' => e = .returned (.tuple #[.string P1, .int .i64 0]) ∧ Made w' c T (N : Int) ∧ Upd (oneBlock c) W w') := fun W c h => by
    refine (encode_any c T N A1 W h hT1 hT8 (by rw [hA1z]; unfold maxLen; omega) hA1z).mono ?_
    rintro e w1 ⟨h1, h2, h3, _⟩
    rw [hl, ← hP1] at h1
    exact ⟨h1, h2, h3⟩
  have HEN2 : Hid (∀ (W : World) (c : Nat), Made W c T (N : Int) → Calls Tryd.prog 6 #[.pointer (some ⟨c, 0, none⟩), .string B1] W fun e w' => e = .returned (.tuple #[.string P2, .int .i64 0]) ∧ Made w' c T (N : Int) ∧ Upd noBlock W w') := fun W c h => by
    refine (encode_any c T N B1 W h.code hT1 hT8 (by rw [hB1z]; unfold maxLen; omega) hB1z).mono ?_
    rintro e w1 ⟨h1, h2, _, h3⟩
    rw [hm, ← hP2] at h1
    exact ⟨h1, h2, h3 h⟩
  have HEN3 : Hid (∀ (W : World) (c : Nat), Made W c T (N : Int) → Calls Tryd.prog 6 #[.pointer (some ⟨c, 0, none⟩), .string X] W fun e w' => e = .returned (.tuple #[.string P3, .int .i64 0]) ∧ Made w' c T (N : Int) ∧ Upd noBlock W w') := fun W c h => by
    refine (encode_any c T N X W h.code hT1 hT8 (by rw [hXz]; unfold maxLen; omega) hXz).mono ?_
    rintro e w1 ⟨h1, h2, _, h3⟩
    have hXl : X.data.toList = xL l m := by rw [hX]
    rw [hXl, ← hP3] at h1
    exact ⟨h1, h2, h3 h⟩
  have HPAR : Hid (∀ (W : World) (c : Nat), Made W c T (N : Int) → Calls Tryd.prog 7 #[.pointer (some ⟨c, 0, none⟩)] W fun e w' => e = .returned (.int .i64 (pn : Int)) ∧ Upd noBlock W w') := fun W c h => by
    refine (parity_any c T N W h.code hT1 hT8).mono ?_
    rintro e w1 ⟨h1, h2, _, h3⟩
    rw [hpn] at h1
    exact ⟨h1, h3 h⟩
  have hpn14 : pn ≤ 16 := by omega
  -- the checksums
  have HSA : Hid (∀ W, Upd noBlock wb W → Calls Tryd.prog 4 #[.string A1] W fun e w' => e = .returned (.int .u32 (ext 0 l : Nat)) ∧ W = w') := fun W h => by
    have := HSM.out W A1 h (by rw [hA1z]; unfold maxLen; omega)
    rwa [hl] at this
  have HSB : Hid (∀ W, Upd noBlock wb W → Calls Tryd.prog 4 #[.string B1] W fun e w' => e = .returned (.int .u32 (ext 0 m : Nat)) ∧ W = w') := fun W h => by
    have := HSM.out W B1 h (by rw [hB1z]; unfold maxLen; omega)
    rwa [hm] at this
  have HSX : Hid (∀ W, Upd noBlock wb W → Calls Tryd.prog 4 #[.string X] W fun e w' => e = .returned (.int .u32 (ext 0 (xL l m) : Nat)) ∧ W = w') := fun W h => by
    have := HSM.out W X h (by rw [hXz]; unfold maxLen; omega)
    have hXl : X.data.toList = xL l m := by rw [hX]
    rwa [hXl] at this
  obtain ⟨Z, hZ⟩ : ∃ Z : ByteArray, Z = ⟨(List.replicate N (0 : UInt8)).toArray⟩ := ⟨_, rfl⟩
  have hZl : Z.data.toList = List.replicate N 0 := by rw [hZ]
  have HSZ : Hid (∀ W, Upd noBlock wb W → Calls Tryd.prog 4 #[.string Z] W fun e w' => e = .returned (.int .u32 (ext 0 (List.replicate N 0) : Nat)) ∧ W = w') := fun W h => by
    have := HSM.out W Z h (by rw [hZ]; show (List.replicate N (0 : UInt8)).length ≤ _; rw [List.length_replicate]; unfold maxLen; omega)
    rwa [hZl] at this
  have hxs1 := u32_xor_nat _ _ (ext0_lt l) (ext0_lt m)
  have hxs2 := u32_xor_nat _ _ (Nat.xor_lt_two_pow (ext0_lt l) (ext0_lt m)) (ext0_lt (xL l m))
  rw [ext_lin l m hlm, hll] at hxs2
  have HXS1 := Lib.hid hxs1
  have HXS2 := Lib.hid hxs2
  have HCZ : Hid (∀ (W W' : World), Upd noBlock (W.alloc O) W' → (convert 24 9 (.slice (some ⟨W.heap.size, 0, none⟩) N N)).run Tryd.prog W' = .ok (.string Z) W') := fun W W' hu => by
    have hrow := HRB.out W
    have h := run_convert_bytes_back (P := Tryd.prog) W' 24 9 5 ⟨W.heap.size, 0, none⟩ N (List.replicate N 0) Tryd.underlying24 Tryd.underlying5 Tryd.underlying9 (fun j hj => by
      have hj' : j < N := by rw [List.length_replicate] at hj; exact hj
      have hc := hrow.cell (i := j) hj'
      rw [addr_add0, List.getElem_replicate]
      have e : xRow l m 0 j = .int .u8 (((0 : UInt8).toNat : Nat) : Int) := by unfold xRow; rw [if_neg (by omega)]; rfl
      rw [e] at hc
      exact upd_cellL hu hc)
    rw [List.length_replicate, ← hZ] at h
    exact h
  have HCX : Hid (∀ (g : Nat) (W W' : World), W.rowIs g 5 N (xRow l m N) → Upd noBlock W W' → (convert 24 9 (.slice (some ⟨g, 0, none⟩) N N)).run Tryd.prog W' = .ok (.string X) W') := fun g W W' hrow hu => by
    have h := run_convert_bytes_back (P := Tryd.prog) W' 24 9 5 ⟨g, 0, none⟩ N (xL l m) Tryd.underlying24 Tryd.underlying5 Tryd.underlying9 (fun j hj => by
      have hc := hrow.cell (i := j) (by rw [← HXL.out]; exact hj)
      rw [addr_add0, ← HXG.out j hj]
      exact upd_cellL hu hc)
    rw [HXL.out, ← HX.out] at h
    exact h
  clear hxb hxs1 hxs2 hlin hP1 hP2 hP3 hpn hp1 hp2 hp3 hX hZ hZl HO HXL HXG HX hll hml hlm hl hm
  generalize hE1 : ext 0 l = E1 at *
  generalize hE2 : ext 0 m = E2 at *
  generalize hE3 : ext 0 (xL l m) = E3 at *
  generalize hE4 : ext 0 (List.replicate N 0) = E4 at *
  generalize hE12 : E1 ^^^ E2 = E12 at *
  clear hE1 hE2 hE3 hE4 hE12
  have HB0 := Lib.hid (HRB.out wb.drew)
  have HU0 : Hid (Upd noBlock wb (wb.drew.alloc O)) := (Upd.refl noBlock wb).drew.alloc _
  have hmk := HMK.out
  go_wp2_with fail
  go_region
  go_wp2_with fail
  clear hmk
  go_loopw [9] (fun i wr => ∃ k : Nat, k ≤ N ∧ i = .int .i64 (k : Int) ∧ Hid (wr.rowIs wb.heap.size 5 N (xRow l m k)) ∧ Hid (Upd noBlock wb wr)) (fun i _ => N - (intOf i).toNat)
  case atStart => exact ⟨0, Nat.zero_le _, rfl, HB0, HU0⟩
  case round =>
    clear HB0 HU0
    obtain ⟨k, hk, rfl, HB, HU⟩ := hrel
    by_cases h0 : k < N
    · have h0a : k < A1.size := by omega
      have h0b : k < B1.size := by omega
      have hx := HXB.out k h0 h0a h0b
      have hrow : ∀ i, xRow l m (k + 1) i = if i = k then .int .u8 (((l.getD k 0).toNat ^^^ (m.getD k 0).toNat : Nat) : Int) else xRow l m k i := fun i => by
        unfold xRow
        by_cases hi : i = k
        · subst hi; rw [if_pos rfl, if_pos (by omega)]
        · rw [if_neg hi]
          have : i < k + 1 ↔ i < k := by omega
          simp only [this]
      have HN2 : Hid ((wr.setCell ⟨wb.heap.size, k, none⟩ (.int .u8 (((l.getD k 0).toNat ^^^ (m.getD k 0).toNat : Nat) : Int))).rowIs wb.heap.size 5 N (xRow l m (k + 1))) :=
        (HB.out.set k _).congr (fun i _ => (hrow i).symm)
      have HNU : Hid (Upd noBlock wb (wr.setCell ⟨wb.heap.size, k, none⟩ (.int .u8 (((l.getD k 0).toNat ^^^ (m.getD k 0).toNat : Nat) : Int)))) := HU.out.setCell (.inr (Nat.le_refl _)) _
      have c1 := HB.out.cell (i := k) h0
      have f1 := HB.out.frozen k
      clear hrow
      generalize (l.getD k 0).toNat ^^^ (m.getD k 0).toNat = z at *
      generalize xRow l m k k = z0 at c1
      have hk63 : (k : Int) < (N : Int) := by omega
      go_wp2_with fail
      go_region
      go_wp2_with fail
      go_roundw
      case rel => exact ⟨k + 1, by omega, by go_num, HN2, HNU.out.drew⟩
      case measure => simp [intOf]; omega
    · obtain rfl : k = N := by omega
      obtain ⟨w8, rfl⟩ : ∃ w8 : World, w8 = wr := ⟨_, rfl⟩
      obtain ⟨c, hc⟩ : ∃ c, w8.heap.size = c := ⟨_, rfl⟩
      have HN := Lib.hid (HNEW.out w8 c hc)
      have HCI := Lib.hid (fun W hW => HCX.out wb.heap.size w8 W HB.out hW)
      have HUC : Hid (∀ W W', Upd noBlock w8 W → Upd (oneBlock c) W W' → Upd noBlock w8 W') := fun W W' h1 h2 => h1.step h2 (fun i hi e => by have e : i = c := e; omega)
      clear hc
      go_wp2_with (first
        | (go_at_call 5; refine HN.out.mono ?_; rintro e w1 ⟨rfl, h1, h2⟩; have HC1 := Lib.hid h1; have HU1 := Lib.hid h2; clear h1 h2)
        | (go_at_call 6; have _t := HC1; refine (HEN1.out _ _ HC1.out).mono ?_; rintro e w2 ⟨rfl, h1, h2⟩; have HM2 := Lib.hid h1; have HU2 := Lib.hid (HUC.out _ _ HU1.out h2); clear h1 h2 HC1)
        | (go_at_call 6; have _t := HM2; refine (HEN2.out _ _ HM2.out).mono ?_; rintro e w3 ⟨rfl, h1, h2⟩; have HM3 := Lib.hid h1; have HU3 := Lib.hid (HU2.out.trans h2); have hcv := HCI.out _ HU3.out; clear h1 h2 HM2)
        | (go_at_call 6; refine (HEN3.out _ _ HM3.out).mono ?_; rintro e w4 ⟨rfl, h1, h2⟩; have HM4 := Lib.hid h1; have HU4 := Lib.hid (HU3.out.trans h2); clear h1 h2 HM3)
        | (go_at_call 7; refine (HPAR.out _ _ HM4.out).mono ?_; rintro e w5 ⟨rfl, h2⟩; have HU5 := Lib.hid (HU4.out.trans h2); clear h2))
      clear HN HU1 HU2 HU3 hcv HM4 HU4
      go_loopw [18] (fun i wl => ∃ j : Nat, j ≤ pn ∧ i = .int .i64 (j : Int) ∧ Hid (Upd noBlock w8 wl)) (fun i _ => pn - (intOf i).toNat)
      case atStart => exact ⟨0, Nat.zero_le _, rfl, HU5⟩
      case round =>
        clear HU5
        obtain ⟨j, hj, rfl, HUj⟩ := hrel
        by_cases h1 : j < pn
        · have hx := HPX.out j h1 (by omega) (by omega) (by omega)
          have hj63 : (j : Int) < (pn : Int) := by omega
          go_wp2_with fail
          go_quiet (fail)
          go_wp2_with fail
          go_roundw
          case rel => exact ⟨j + 1, by omega, by go_num, HUj.out.drewN _⟩
          case measure => simp [intOf]; omega
        · obtain rfl : j = pn := by omega
          have hu9 := HU.out.trans HUj.out
          have HUA : Upd noBlock wb wr.drew := hu9.drew
          have HUB : Upd noBlock wb (wr.alloc O).drew := (hu9.alloc _).drew
          have hcx0 := HCI.out wr.drew HUj.out.drew
          have hcx1 := HCI.out (wr.alloc O).drew (HUj.out.alloc _).drew
          have hcz := HCZ.out wr (wr.alloc O).drew (Upd.refl _ _).drew
          have hmk := HMK.out
          have hxs1 := HXS1.out
          have hxs2 := HXS2.out
          clear hu9 HRB HNEW HEN1 HEN2 HEN3 HPAR HPX HXB HB HCI HCX HCZ HUC HTU HSM HMK HXS1 HXS2 HU HUj hT1 hT8 hsA hsB
          go_wp2_with fail
          go_region_with ((first
            | (go_at_call 4; with_reducible refine (HSA.out _ ?_).mono ?_; (first | exact HUA | exact HUB); rintro e w1 ⟨rfl, rfl⟩)
            | (go_at_call 4; with_reducible refine (HSB.out _ ?_).mono ?_; (first | exact HUA | exact HUB); rintro e w1 ⟨rfl, rfl⟩)
            | (go_at_call 4; with_reducible refine (HSX.out _ ?_).mono ?_; (first | exact HUA | exact HUB); rintro e w1 ⟨rfl, rfl⟩)
            | (go_at_call 4; with_reducible refine (HSZ.out _ ?_).mono ?_; (first | exact HUA | exact HUB); rintro e w1 ⟨rfl, rfl⟩)))
          all_goals
            go_wp2_with fail
            go_ret
            exact ⟨rfl, HUB⟩
theorem topLinear_walk (t : Int) (a b : ByteArray) (w : World) (_ : (Lit.int IntKind.i64 t).wf = true) (hsa : a.size ≤ 140737488351232) (hsb : b.size ≤ 140737488351232) (hT : Tab w) :
    Calls Tryd.prog 3 #[.int .i64 t, .string a, .string b] w fun e w' => e = .returned (.bool true) ∧ Below w.heap.size w w' :=
  (topLinear_upd t a b w hsa hsb hT).mono fun _ _ ⟨h, hu⟩ => ⟨h, hu.below (fun _ _ h => h)⟩
end Go.Proofs.YthabljgefknmgaaDoor
