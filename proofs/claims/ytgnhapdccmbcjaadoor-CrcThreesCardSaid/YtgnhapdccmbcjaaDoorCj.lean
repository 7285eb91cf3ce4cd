/- Walks: CrcThrees. -/
import Derived.Test.YtgnhapdccmbcjaaDoorCb
import Derived.Laws.IdiomStrings
import Derived.Deep.OwnRows
import Derived.RegionTactic
import Derived.Deep.DeepCutAuto
namespace Go.Proofs.YtgnhapdccmbcjaaDoor
open Go.RowKit Cm
attribute [local irreducible] Cm.shs Cm.nxt Cm.reg Cm.ext

theorem byteCells1 : (Tryd.prog.info? 5).map (fun i => (i.zero, i.size, i.bytes)) = some (some (.int .u8 0), 1, 1) := by kernel_rfl
theorem sum3_length : ∀ (a b c : List UInt8), a.length = b.length → b.length = c.length → (sum3 a b c).length = a.length
  | [], [], [], _, _ => rfl
  | _ :: l, _ :: m, _ :: n, h1, h2 => by
    show (sum3 l m n).length + 1 = l.length + 1
    rw [sum3_length l m n (by simpa using h1) (by simpa using h2)]
  | [], _ :: _, _, h, _ => by simp at h
  | [], [], _ :: _, _, h => by simp at h
  | _ :: _, [], _, h, _ => by simp at h
  | _ :: _, _ :: _, [], _, h => by simp at h
theorem sum3_get : ∀ (a b c : List UInt8) (j : Nat) (h : j < (sum3 a b c).length) (ha : j < a.length) (hb : j < b.length) (hc : j < c.length), (sum3 a b c)[j] = a[j] ^^^ b[j] ^^^ c[j]
  | a :: l, b :: m, c :: n, 0, _, _, _, _ => rfl
  | a :: l, b :: m, c :: n, j + 1, h, ha, hb, hc => by
    show (sum3 l m n)[j]'(by simpa [sum3] using h) = l[j]'(by simpa using ha) ^^^ m[j]'(by simpa using hb) ^^^ n[j]'(by simpa using hc)
    exact sum3_get l m n j _ _ _ _
/-- the bytes of the sum -/
def x3 (a b c : ByteArray) (j : Nat) : Nat := (a.data.toList.getD j 0).toNat ^^^ (b.data.toList.getD j 0).toNat ^^^ (c.data.toList.getD j 0).toNat
def x3Row (a b c : ByteArray) (k j : Nat) : Value := .int .u8 ((if j < k then x3 a b c j else 0 : Nat) : Int)
theorem x3_lt (a b c : ByteArray) (j : Nat) : x3 a b c j < 256 :=
  Nat.xor_lt_two_pow (n := 8) (Nat.xor_lt_two_pow (u8_lt _) (u8_lt _)) (u8_lt _)
theorem getD_data (a : ByteArray) (k : Nat) (h : k < a.size) : a.data.toList.getD k 0 = a[k] := by
  have h' : k < a.data.toList.length := h
  rw [List.getD_eq_getElem?_getD, List.getElem?_eq_getElem h']; rfl
theorem x3_cell (a b c : ByteArray) (n : Nat) (ha : n ≤ a.size) (hb : n ≤ b.size) (hc : n ≤ c.size) (j : Nat) (h : j < (sum3 (a.data.toList.take n) (b.data.toList.take n) (c.data.toList.take n)).length) :
    x3Row a b c n j = .int .u8 (((sum3 (a.data.toList.take n) (b.data.toList.take n) (c.data.toList.take n))[j]).toNat : Int) := by
  have la : (a.data.toList.take n).length = n := by rw [List.length_take]; have : a.data.toList.length = a.size := rfl; omega
  have lb : (b.data.toList.take n).length = n := by rw [List.length_take]; have : b.data.toList.length = b.size := rfl; omega
  have lc : (c.data.toList.take n).length = n := by rw [List.length_take]; have : c.data.toList.length = c.size := rfl; omega
  have hj : j < n := by rw [sum3_length _ _ _ (by rw [la, lb]) (by rw [lb, lc]), la] at h; exact h
  rw [sum3_get _ _ _ j h (by omega) (by omega) (by omega)]
  unfold x3Row x3
  rw [if_pos hj, UInt8.toNat_xor, UInt8.toNat_xor, List.getElem_take, List.getElem_take, List.getElem_take, getD_data a j (by omega), getD_data b j (by omega), getD_data c j (by omega)]
  rfl

set_option maxRecDepth 20000 in
set_option maxHeartbeats 1600000 in
theorem crcThrees_walk (a b c : ByteArray) (w : World) (hsa : a.size ≤ 140737488351232) (_hsb : b.size ≤ 140737488351232) (_hsc : c.size ≤ 140737488351232) (hT : Tab w) :
    Calls Tryd.prog 6 #[.string a, .string b, .string c] w fun e w' => e = .returned (.bool true) ∧ Below w.heap.size w w' := by
  have HTU := Lib.hid (fun (x : World) (hx : Upd noBlock w x) => hT.upd hx)
  obtain ⟨n, hn⟩ : ∃ n : Nat, n = min a.size (min b.size c.size) := ⟨_, rfl⟩
  have ha : n ≤ a.size := by omega
  have hb : n ≤ b.size := by omega
  have hc : n ≤ c.size := by omega
  have hmin : (if (c.size : Int) < (if b.size < a.size then (b.size : Int) else (a.size : Int)) then (c.size : Int) else (if b.size < a.size then (b.size : Int) else (a.size : Int))) = (n : Int) := by
    split <;> split <;> omega
  clear hn hT
  have hmk : ∀ w : World, (Instr.makeSlice 31 (.int .i64 (n : Int)) (.int .i64 (n : Int))).run Tryd.prog w = .ok (.slice (some ⟨w.heap.size, 0, none⟩) n n) (w.alloc (.cells (madeCells #[.int .u8 0] n) 5)) :=
    run_make_row' (P := Tryd.prog) 31 5 (.int .u8 0) 1 Tryd.underlying31 byteCells1 rfl .i64 .i64 n (by omega) (by omega)
  obtain ⟨O, HO⟩ : ∃ O : Obj, Hid (O = .cells (madeCells #[.int .u8 0] n) 5) := ⟨_, rfl⟩
  rw [← HO.out] at hmk
  have HU : Hid (Upd noBlock w (w.alloc O)) := (Upd.refl noBlock w).alloc _
  have HB : Hid ((w.alloc O).rowIs w.heap.size 5 n (x3Row a b c 0)) := by
    rw [HO.out]
    exact (World.rowIs_made w (.int .u8 0) n 5).congr (fun i _ => by simp [x3Row])
  have HN : Hid (∀ j (h : j < (sum3 (a.data.toList.take n) (b.data.toList.take n) (c.data.toList.take n)).length), x3Row a b c n j = .int .u8 (((sum3 (a.data.toList.take n) (b.data.toList.take n) (c.data.toList.take n))[j]).toNat : Int)) := fun j h => x3_cell a b c n ha hb hc j h
  have HL : Hid ((sum3 (a.data.toList.take n) (b.data.toList.take n) (c.data.toList.take n)).length = n) := by
    show _ = _
    have ea : a.data.toList.length = a.size := rfl
    have eb : b.data.toList.length = b.size := rfl
    have ec : c.data.toList.length = c.size := rfl
    rw [sum3_length _ _ _ (by rw [List.length_take, List.length_take]; omega) (by rw [List.length_take, List.length_take]; omega), List.length_take]; omega
  have HE : Hid (ext 0 (a.data.toList.take n) ^^^ ext 0 (b.data.toList.take n) ^^^ ext 0 (c.data.toList.take n) = ext 0 (sum3 (a.data.toList.take n) (b.data.toList.take n) (c.data.toList.take n))) :=
    ext_sum3 _ _ _ (by
      have ea : a.data.toList.length = a.size := rfl
      have eb : b.data.toList.length = b.size := rfl
      rw [List.length_take, List.length_take]; omega) (by
      have eb : b.data.toList.length = b.size := rfl
      have ec : c.data.toList.length = c.size := rfl
      rw [List.length_take, List.length_take]; omega)
  have hnn : n ≤ 140737488351232 := by omega
  generalize sum3 (a.data.toList.take n) (b.data.toList.take n) (c.data.toList.take n) = d at *
  have HMIN := Lib.hid hmin
  clear hmin HO
  go_enter Tryd.func6, Tryd.ntmps6
  go_upto_region 2 with fail
  rw [HMIN.out]
  clear HMIN
  go_wp2
  clear hmk
  go_loopw [9] (fun i wr => ∃ k : Nat, k ≤ n ∧ i = .int .i64 (k : Int) ∧ Hid (wr.rowIs w.heap.size 5 n (x3Row a b c k)) ∧ Hid (Upd noBlock w wr)) (fun i _ => n - (intOf i).toNat)
  case atStart => exact ⟨0, Nat.zero_le _, rfl, HB, HU⟩
  case round =>
    clear HB HU
    obtain ⟨k, hk, rfl, HB, HU⟩ := hrel
    by_cases h0 : k < n
    · have h0a : k < a.size := by omega
      have h0b : k < b.size := by omega
      have h0c : k < c.size := by omega
      have hx1 : bits .xor .u8 (a[k].toNat : Int) (b[k].toNat : Int) = ((a[k].toNat ^^^ b[k].toNat : Nat) : Int) := u8_xor_nat _ _ (u8_lt _) (u8_lt _)
      have hx2 : bits .xor .u8 ((a[k].toNat ^^^ b[k].toNat : Nat) : Int) (c[k].toNat : Int) = ((x3 a b c k : Nat) : Int) := by
        rw [u8_xor_nat _ _ (Nat.xor_lt_two_pow (n := 8) (u8_lt _) (u8_lt _)) (u8_lt _)]
        unfold x3
        rw [getD_data a k h0a, getD_data b k h0b, getD_data c k h0c]
      have hrow : ∀ i, x3Row a b c (k + 1) i = if i = k then .int .u8 ((x3 a b c k : Nat) : Int) else x3Row a b c k i := fun i => by
        unfold x3Row
        by_cases hi : i = k
        · subst hi; rw [if_pos rfl, if_pos (by omega)]
        · rw [if_neg hi]
          have : i < k + 1 ↔ i < k := by omega
          simp only [this]
      have HN2 : Hid ((wr.setCell ⟨w.heap.size, k, none⟩ (.int .u8 ((x3 a b c k : Nat) : Int))).rowIs w.heap.size 5 n (x3Row a b c (k + 1))) :=
        (HB.out.set k _).congr (fun i _ => (hrow i).symm)
      have HNU : Hid (Upd noBlock w (wr.setCell ⟨w.heap.size, k, none⟩ (.int .u8 ((x3 a b c k : Nat) : Int)))) := HU.out.setCell (.inr (Nat.le_refl _)) _
      have c1 := HB.out.cell (i := k) h0
      have f1 := HB.out.frozen k
      clear hrow
      generalize x3 a b c k = z at *
      generalize x3Row a b c k k = z0 at c1
      go_wp2
      go_region
      go_wp2
      go_roundw
      case rel => exact ⟨k + 1, by omega, by go_num, HN2, HNU.out.drew⟩
      case measure => simp [intOf]; omega
    · obtain rfl : k = n := by omega
      have hcv : ∀ m : Nat, (convert 31 9 (.slice (some ⟨w.heap.size, 0, none⟩) k k)).run Tryd.prog (wr.drewN m) = .ok (.string ⟨d.toArray⟩) (wr.drewN m) := fun m => by
        have h := run_convert_bytes_back (P := Tryd.prog) (wr.drewN m) 31 9 5 ⟨w.heap.size, 0, none⟩ k d Tryd.underlying31 Tryd.underlying5 Tryd.underlying9 (fun j hj => by
          have e : (⟨w.heap.size, 0, none⟩ : Addr).add j = ⟨w.heap.size, j, none⟩ := by
            by_cases h0 : j = 0
            · subst h0; simp [Addr.add]
            · simp [Addr.add, h0]
          rw [e, ← HN.out j hj]
          exact HB.out.cell (i := j) (by rw [← HL.out]; exact hj))
        rw [HL.out] at h
        exact h
      have HDS : Hid ((ByteArray.mk d.toArray).size ≤ maxLen) := by
        show d.length ≤ _
        rw [HL.out]; unfold maxLen; omega
      have HAS : Hid ((a.extract 0 k).size ≤ maxLen) := by show (a.extract 0 k).size ≤ _; simp; unfold maxLen; omega
      have HBS : Hid ((b.extract 0 k).size ≤ maxLen) := by show (b.extract 0 k).size ≤ _; simp; unfold maxLen; omega
      have HCS : Hid ((c.extract 0 k).size ≤ maxLen) := by show (c.extract 0 k).size ≤ _; simp; unfold maxLen; omega
      have hsp : ∀ m, Hid (Calls Tryd.prog 7 #[] (wr.drewN m) fun e w'' => e = .returned (.bool true) ∧ ∃ m', w'' = wr.drewN m') := fun m =>
        Calls.quiet_of_same ((speaks3_any _ (HTU.out _ (HU.out.drewN m))).mono fun _ _ ⟨h, hw⟩ => ⟨h, hw.symm⟩)
      have hsm : ∀ m (s : ByteArray), Hid (s.size ≤ maxLen) → Hid (Calls Tryd.prog 8 #[.string s] (wr.drewN m) fun e w'' => e = .returned (.int .u32 (ext 0 s.data.toList : Nat)) ∧ ∃ m', w'' = wr.drewN m') := fun m s hs =>
        Calls.quiet_of_same ((sum_any s _ hs.out (HTU.out _ (HU.out.drewN m))).mono fun _ _ ⟨h, hw⟩ => ⟨h, hw.symm⟩)
      have la := ext0_lt (a.data.toList.take k)
      have lb := ext0_lt (b.data.toList.take k)
      have lc := ext0_lt (c.data.toList.take k)
      have x1 := u32_xor_nat _ _ la lb
      have x2 := u32_xor_nat _ _ (Nat.xor_lt_two_pow la lb) lc
      rw [HE.out] at x2
      have HSP := Lib.hid hsp
      have HSM := Lib.hid hsm
      clear HB HN la lb lc hsp hsm
      go_wp2_with fail
      go_quiet ((first | (go_at_call 7; exact (HSP.out _).out) | (go_at_call 8; exact (HSM.out _ _ (by first | exact HDS | exact HAS | exact HBS | exact HCS)).out)))
      go_wp2_with fail
      go_ret
      exact ⟨rfl, (HU.out.drewN _).below (fun _ _ h => h)⟩
end Go.Proofs.YtgnhapdccmbcjaaDoor
