import Derived.Test.YtoledgpcgjdjjaaGreatDoorQGCa
import Derived.Test.YtoledgpcgjdjjaaGreatDoorQShelf
import Derived.Test.YtoledgpcgjdjjaaGreatDoorQGBy
import Derived.Lib.ConvBytes
import Derived.Laws.Cover3
import Derived.ChangeKeysEq
import Derived.Laws.StructEq
import Derived.Deep.RegionHeld3
/- Walks: Open. -/
namespace Go.Proofs.YtoledgpcgjdjjaaGreatDoor
open Go.RowKit Cm
attribute [local irreducible] Cm.shs Cm.nxt Cm.reg Cm.ext

theorem conv_bytes (q : ByteArray) : ∃ (CW : World → World) (CC : World → Nat), (∀ w : World, (convert 9 105 (.string q)).run Tryz.prog w = .ok (.slice (some ⟨w.heap.size, 0, none⟩) q.size (CC w)) (CW w)) ∧
    Hid (∀ w, Upd noBlock w (CW w)) ∧ Hid (∀ w j, j < q.size → (CW w).cell? ⟨w.heap.size, j, none⟩ = some (.int .u8 ((q.data.toList.getD j 0).toNat : Int))) :=
  ⟨fun w => Lib.bytesWorld w 5 q, fun w => grownCap w q.size 0 5, fun w => Lib.run_convert_string_bytes w 9 105 5 q Tryz.underlying9 Tryz.underlying105 Tryz.underlying5,
    fun w => upd_bytes w _ q, fun w j hj => Lib.bytesWorld_cell w _ q j hj⟩
theorem eq_four (a0 a1 a2 a3 c0 c1 c2 c3 : Int) (w : World) :
    (Op.equalIn 10000 224 (.agg #[.int .u8 a0, .int .u8 a1, .int .u8 a2, .int .u8 a3]) (.agg #[.int .u8 c0, .int .u8 c1, .int .u8 c2, .int .u8 c3])).run Tryz.prog w = .ok (a0 == c0 && (a1 == c1 && (a2 == c2 && a3 == c3))) w := by
  obtain ⟨i, hi⟩ : ∃ i, Tryz.prog.info? 5 = some i := Option.isSome_iff_exists.1 (by kernel_rfl)
  have hp : Tryz.prog.plainKey 5 = true := by kernel_rfl
  have hc : Tryz.prog.cellsOf 5 = 1 := by kernel_rfl
  have hpart : ∀ (xs : Array Value) (j : Nat) (v : Value) (w : World), xs[j]? = some v → (part 5 xs j).run Tryz.prog w = .ok v w := fun xs j v w h => run_part_plain w hp h
  have heq : ∀ (a b : Int) (w : World), (Op.equalIn 9999 5 (.int .u8 a) (.int .u8 b)).run Tryz.prog w = .ok (a == b) w := fun a b w => run_equalIn_int w 9998 _ .u8 .u8 a b Tryz.underlying5
  rw [run_equalIn_array w 9999 _ _ Tryz.underlying224 hi, hc, show List.range 4 = [0, 1, 2, 3] from rfl]
  simp only [Op.eqItems, Sem.run_bind, Nat.mul_one]
  rw [hpart _ 0 (.int .u8 a0) w rfl]
  simp only [Result.andThen_ok]
  rw [hpart _ 0 (.int .u8 c0) w rfl]
  simp only [Result.andThen_ok, heq]
  cases h0 : (a0 == c0)
  · simp
  simp only [Bool.not_true, Bool.false_eq_true, if_false, Sem.run_bind]
  rw [hpart _ 1 (.int .u8 a1) w rfl]
  simp only [Result.andThen_ok]
  rw [hpart _ 1 (.int .u8 c1) w rfl]
  simp only [Result.andThen_ok, heq]
  cases h1 : (a1 == c1)
  · simp
  simp only [Bool.not_true, Bool.false_eq_true, if_false, Sem.run_bind]
  rw [hpart _ 2 (.int .u8 a2) w rfl]
  simp only [Result.andThen_ok]
  rw [hpart _ 2 (.int .u8 c2) w rfl]
  simp only [Result.andThen_ok, heq]
  cases h2 : (a2 == c2)
  · simp
  simp only [Bool.not_true, Bool.false_eq_true, if_false, Sem.run_bind]
  rw [hpart _ 3 (.int .u8 a3) w rfl]
  simp only [Result.andThen_ok]
  rw [hpart _ 3 (.int .u8 c3) w rfl]
  simp only [Result.andThen_ok, heq]
  cases h3 : (a3 == c3) <;> simp

theorem slb_bytes (c : Nat) (hc : c < 2 ^ 32) : b0 c = ((UInt8.ofNat c).toNat : Int) ∧ b1 c = ((UInt8.ofNat (c / 256)).toNat : Int) ∧ b2 c = ((UInt8.ofNat (c / 65536)).toNat : Int) ∧ b3 c = ((UInt8.ofNat (c / 16777216)).toNat : Int) := by
  unfold b0 b1 b2 b3
  simp only [UInt8.toNat_ofNat']
  omega
theorem u8_beq (x y : UInt8) : (((x.toNat : Nat) : Int) == ((y.toNat : Nat) : Int)) = decide (x = y) := by
  rw [Bool.eq_iff_iff]
  simp only [beq_iff_eq, decide_eq_true_eq, ← UInt8.toNat_inj]
  omega
theorem four_eq (q : List UInt8) (c : Nat) (hc : c < 2 ^ 32) (hq : q.length = 4) :
    (((q.getD 0 0).toNat : Int) == b0 c && (((q.getD 1 0).toNat : Int) == b1 c && (((q.getD 2 0).toNat : Int) == b2 c && ((q.getD 3 0).toNat : Int) == b3 c))) = decide (q = slb c) := by
  obtain ⟨e0, e1, e2, e3⟩ := slb_bytes c hc
  rw [e0, e1, e2, e3]
  match q, hq with
  | [x0, x1, x2, x3], _ =>
    simp only [List.getD_cons_zero, List.getD_cons_succ, u8_beq]
    rw [Bool.eq_iff_iff]
    simp [slb]
theorem extract_all (s : ByteArray) (n : Nat) (hn : s.size = n + 4) : (s.extract n (n + 4)).data.toList = s.data.toList.drop n := by
  simp
  rw [List.take_of_length_le (by simp; omega)]
theorem extract_pre (s : ByteArray) (n : Nat) : (s.extract 0 n).data.toList = s.data.toList.take n := by simp

set_option maxRecDepth 20000 in
theorem clone_any (s : ByteArray) (w : World) (hs : s.size ≤ 281474976710656) :
    Calls Tryz.prog 127 #[.string s] w fun e w' => e = .returned (.string s) ∧ Upd noBlock w w' := by
  have H := Tryz.stringslite_Clone s w hs
  go_enter Tryz.func127, Tryz.ntmps127
  go_wp2_with fail
  refine H.mono ?_
  rintro e w1 ⟨rfl, hb⟩
  have HB := Lib.hid hb
  clear H hb
  go_wp2_with fail
  go_ret
  exact ⟨rfl, Upd.of_below HB.out _⟩

set_option maxRecDepth 20000 in
set_option maxHeartbeats 1600000 in
theorem open_four (s : ByteArray) (n : Nat) (okb : Bool) (w : World) (hn : s.size = n + 4) (hs : s.size ≤ 281474976710656) (hT : Tab w) (hok : decide (s.data.toList.drop n = slb (ext 0 (s.data.toList.take n))) = okb) :
    Calls Tryz.prog 102 #[.string s] w fun e w' => e = .returned (.tuple #[.string (if okb then s.extract 0 n else ⟨#[]⟩), .bool okb]) ∧ Upd noBlock w w' := by
  have HTU := Lib.hid (fun (u : World) (hu : Upd noBlock w u) => hT.upd hu)
  have hm : s.size ≤ maxLen := by unfold maxLen; omega
  have HP : Hid ((s.extract 0 n).size ≤ 281474976710656) := by show (s.extract 0 n).size ≤ _; simp; omega
  have HPM : Hid ((s.extract 0 n).size ≤ maxLen) := Nat.le_trans HP.out (by unfold maxLen; omega)
  obtain ⟨CW, CC, hconv, hcu, hcc⟩ := conv_bytes (s.extract n (n + 4))
  have hq : (s.extract n (n + 4)).size = 4 := by simp; omega
  have hfe := four_eq (s.data.toList.drop n) (ext 0 (s.data.toList.take n)) (ext0_lt _) (by simp; omega)
  rw [hok, ← extract_all s n hn] at hfe
  rw [hq] at hconv hcc
  have hz : ∀ w : World, w.drew.heap.size = w.heap.size := fun _ => rfl
  have hc0 : ∀ w : World, (CW w.drew).cell? ⟨w.heap.size, 0, none⟩ = some (.int .u8 (((s.extract n (n + 4)).data.toList.getD 0 0).toNat : Int)) := fun w => hcc.out w.drew 0 (by omega)
  have hc1 : ∀ w : World, (CW w.drew).cell? ⟨w.heap.size, 1, none⟩ = some (.int .u8 (((s.extract n (n + 4)).data.toList.getD 1 0).toNat : Int)) := fun w => hcc.out w.drew 1 (by omega)
  have hc2 : ∀ w : World, (CW w.drew).cell? ⟨w.heap.size, 2, none⟩ = some (.int .u8 (((s.extract n (n + 4)).data.toList.getD 2 0).toNat : Int)) := fun w => hcc.out w.drew 2 (by omega)
  have hc3 : ∀ w : World, (CW w.drew).cell? ⟨w.heap.size, 3, none⟩ = some (.int .u8 (((s.extract n (n + 4)).data.toList.getD 3 0).toNat : Int)) := fun w => hcc.out w.drew 3 (by omega)
  have hd0 : ∀ w : World, (CW w).cell? ⟨w.heap.size, 0, none⟩ = some (.int .u8 (((s.extract n (n + 4)).data.toList.getD 0 0).toNat : Int)) := fun w => hcc.out w 0 (by omega)
  have hd1 : ∀ w : World, (CW w).cell? ⟨w.heap.size, 1, none⟩ = some (.int .u8 (((s.extract n (n + 4)).data.toList.getD 1 0).toNat : Int)) := fun w => hcc.out w 1 (by omega)
  have hd2 : ∀ w : World, (CW w).cell? ⟨w.heap.size, 2, none⟩ = some (.int .u8 (((s.extract n (n + 4)).data.toList.getD 2 0).toNat : Int)) := fun w => hcc.out w 2 (by omega)
  have hd3 : ∀ w : World, (CW w).cell? ⟨w.heap.size, 3, none⟩ = some (.int .u8 (((s.extract n (n + 4)).data.toList.getD 3 0).toNat : Int)) := fun w => hcc.out w 3 (by omega)
  clear hcc hok hT
  generalize (((s.extract n (n + 4)).data.toList.getD 0 0).toNat : Int) = q0 at *
  generalize (((s.extract n (n + 4)).data.toList.getD 1 0).toNat : Int) = q1 at *
  generalize (((s.extract n (n + 4)).data.toList.getD 2 0).toNat : Int) = q2 at *
  generalize (((s.extract n (n + 4)).data.toList.getD 3 0).toNat : Int) = q3 at *
  have harr : ∀ (a : Option Addr) (c : Nat) (w : World), (Instr.arrayAt 224 (.slice a 4 c)).run Tryz.prog w = .ok (.pointer a) w := fun a c w => run_arrayAt w 224 5 4 a 4 c Tryz.underlying224 (by omega)
  have h4 := eq_four q0 q1 q2 q3 (b0 (ext 0 (s.data.toList.take n))) (b1 (ext 0 (s.data.toList.take n))) (b2 (ext 0 (s.data.toList.take n))) (b3 (ext 0 (s.data.toList.take n)))
  rw [hfe] at h4
  have hsl : ∀ (w : World), Hid (Upd noBlock w w.drew) := fun w => (Upd.refl _ _).drew
  clear hfe
  cases okb
  · go_enter Tryz.func102, Tryz.ntmps102
    go_wp2
    go_region_with (go_at_call 126; refine (sealOf_any _ _ HPM.out (by first | exact HTU.out _ (hsl _).out | exact HTU.out _ ((hsl _).out.trans (hcu.out _)) | exact HTU.out _ ((hsl _).out.trans (hsl _).out))).mono ?_; rw [extract_pre]; rintro e w1 ⟨rfl, hu⟩; try (have k0 := upd_cell hu (hc0 _); have k1 := upd_cell hu (hc1 _); have k2 := upd_cell hu (hc2 _); have k3 := upd_cell hu (hc3 _)))
    all_goals go_wp2
    all_goals go_ret2
    all_goals refine ⟨rfl, ?_⟩
    all_goals (first | exact (hsl _).out.trans ((hcu.out _).trans hu) | exact ((hsl _).out.trans hu).trans (hcu.out _))
  · go_enter Tryz.func102, Tryz.ntmps102
    go_wp2
    go_region_with (go_at_call 126; refine (sealOf_any _ _ HPM.out (by first | exact HTU.out _ (hsl _).out | exact HTU.out _ ((hsl _).out.trans (hcu.out _)) | exact HTU.out _ ((hsl _).out.trans (hsl _).out))).mono ?_; rw [extract_pre]; rintro e w1 ⟨rfl, hu⟩; try (have k0 := upd_cell hu (hc0 _); have k1 := upd_cell hu (hc1 _); have k2 := upd_cell hu (hc2 _); have k3 := upd_cell hu (hc3 _)))
    all_goals go_wp2_with fail
    all_goals refine (clone_any (s.extract 0 n) _ HP.out).mono ?_
    all_goals rintro e w9 ⟨rfl, hb9⟩
    all_goals have HU9 := Lib.hid hb9
    all_goals clear hb9
    all_goals go_wp2_with fail
    all_goals go_ret2
    all_goals refine ⟨rfl, Upd.trans ?_ HU9.out⟩
    all_goals (first | exact (hsl _).out.trans ((hcu.out _).trans hu) | exact ((hsl _).out.trans hu).trans (hcu.out _))
end Go.Proofs.YtoledgpcgjdjjaaGreatDoor

/- Walks: CrcSeals. -/
namespace Go.Proofs.YtoledgpcgjdjjaaGreatDoor
open Go.RowKit Cm
attribute [local irreducible] Cm.shs Cm.nxt Cm.reg Cm.ext

theorem open_yes (t : List UInt8) (s : ByteArray) (w : World) (h : s.data.toList = sealed t) (hs : s.size ≤ 281474976710656) (hT : Tab w) :
    Calls Tryz.prog 102 #[.string s] w fun e w' => e = .returned (.tuple #[.string ⟨t.toArray⟩, .bool true]) ∧ Upd noBlock w w' := by
  have hl : s.size = t.length + 4 := by
    have h1 : s.data.toList.length = s.size := rfl
    rw [← h1, h]; exact sealed_length t
  have ht : s.data.toList.take t.length = t := by rw [h]; unfold sealed; exact List.take_left
  have hd : s.data.toList.drop t.length = slb (ext 0 t) := by rw [h]; unfold sealed; exact List.drop_left
  have e : s.extract 0 t.length = ⟨t.toArray⟩ := by
    apply ByteArray.ext
    apply Array.ext'
    show (s.extract 0 t.length).data.toList = t
    rw [extract_pre, ht]
  have := open_four s t.length true w hl hs hT (by rw [ht, hd]; simp)
  rw [if_pos rfl, e] at this
  exact this
set_option maxRecDepth 20000 in
theorem open_no (s : ByteArray) (w : World) (h : ∀ t, s.data.toList ≠ sealed t) (hs : s.size ≤ 281474976710656) (hT : Tab w) :
    Calls Tryz.prog 102 #[.string s] w fun e w' => e = .returned (.tuple #[.string ⟨#[]⟩, .bool false]) ∧ Upd noBlock w w' := by
  by_cases h4 : 4 ≤ s.size
  · refine open_four s (s.size - 4) false w (by omega) hs hT (decide_eq_false fun hd => h (s.data.toList.take (s.size - 4)) ?_)
    unfold sealed
    rw [← hd, List.take_append_drop]
  · have h5 : (s.size : Int) - 4 < 0 := by omega
    clear h hT
    go_enter Tryz.func102, Tryz.ntmps102
    go_wp2
    go_ret2
    exact ⟨rfl, Upd.refl _ _⟩
end Go.Proofs.YtoledgpcgjdjjaaGreatDoor
