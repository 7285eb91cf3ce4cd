/- Walks: CrcSeals. -/
import Derived.Test.YtgnhapdccmbcjaaDoorCf
import Derived.Test.YtgnhapdccmbcjaaDoorCg
namespace Go.Proofs.YtgnhapdccmbcjaaDoor
open Go.RowKit Cm
attribute [local irreducible] Cm.shs Cm.nxt Cm.reg Cm.ext

theorem slb_length (c : Nat) : (slb c).length = 4 := rfl
theorem open_yes (t : List UInt8) (s : ByteArray) (w : World) (h : s.data.toList = sealed t) (hs : s.size ≤ 281474976710656) (hT : Tab w) :
    Calls Tryd.prog 14 #[.string s] w fun e w' => e = .returned (.tuple #[.string ⟨t.toArray⟩, .bool true]) ∧ Upd noBlock w w' := by
  have hl : s.size = t.length + 4 := by
    have h1 : s.data.toList.length = s.size := rfl
    rw [← h1, h]; exact sealed_length t
  have ht : s.data.toList.take t.length = t := by rw [h]; unfold sealed; exact List.take_left
  have hd : s.data.toList.drop t.length = slb (ext 0 t) := by rw [h]; unfold sealed; exact List.drop_left
  have e : s.extract 0 t.length = ⟨t.toArray⟩ := by
    apply ByteArray.ext
    apply Array.ext'
    show (s.extract 0 t.length).data.toList = t
    rw [extract_pre, ht]
  have := open_four s t.length true w hl hs hT (by rw [ht, hd]; simp)
  rw [if_pos rfl, e] at this
  exact this
set_option maxRecDepth 20000 in
theorem open_no (s : ByteArray) (w : World) (h : ∀ t, s.data.toList ≠ sealed t) (hs : s.size ≤ 281474976710656) (hT : Tab w) :
    Calls Tryd.prog 14 #[.string s] w fun e w' => e = .returned (.tuple #[.string ⟨#[]⟩, .bool false]) ∧ Upd noBlock w w' := by
  by_cases h4 : 4 ≤ s.size
  · refine open_four s (s.size - 4) false w (by omega) hs hT (decide_eq_false fun hd => h (s.data.toList.take (s.size - 4)) ?_)
    unfold sealed
    rw [← hd, List.take_append_drop]
  · have h5 : (s.size : Int) - 4 < 0 := by omega
    clear h hT
    go_enter Tryd.func14, Tryd.ntmps14
    go_wp2
    go_ret2
    exact ⟨rfl, Upd.refl _ _⟩
theorem mk_toList (s : ByteArray) : (⟨s.data.toList.toArray⟩ : ByteArray) = s := rfl

set_option maxRecDepth 20000 in
set_option maxHeartbeats 1600000 in
theorem crcSeals_yes (s : ByteArray) (u : List UInt8) (w : World) (hs : s.size ≤ 140737488351232) (hu4 : u.length + 4 ≤ 140737488351232) (hT : Tab w) :
    Calls Tryd.prog 4 #[.string s, .string ⟨(sealed u).toArray⟩] w fun e w' => e = .returned (.bool true) ∧ Below w.heap.size w w' := by
  have HTU := Lib.hid (fun (x : World) (hx : Upd noBlock w x) => hT.upd hx)
  have HS := Lib.hid hs
  have HU4 := Lib.hid hu4
  have hsz : (ByteArray.mk (sealed u).toArray).size = u.length + 4 := sealed_length u
  have HX : Hid ((ByteArray.mk (sealed u).toArray).extract 0 u.length = ⟨u.toArray⟩) := by
    show _ = _
    apply ByteArray.ext
    apply Array.ext'
    rw [extract_pre]
    show (sealed u).take u.length = u
    unfold sealed; exact List.take_left
  have HSS : Hid ((ByteArray.mk (sealed s.data.toList).toArray).size ≤ 281474976710656) := by
    show (sealed s.data.toList).length ≤ _
    rw [sealed_length]
    have : s.data.toList.length = s.size := rfl
    omega
  have hul : u.length ≤ 140737488351232 := by omega
  clear hs hT hu4
  go_enter Tryd.func4, Tryd.ntmps4
  go_wp2_with fail
  refine (speaks3_any _ (HTU.out _ (Upd.refl _ _))).mono ?_
  rintro e w1 ⟨rfl, rfl⟩
  go_wp2_with fail
  refine (seal_any s _ (by have := HS.out; omega) (HTU.out _ (Upd.refl _ _))).mono ?_
  rintro e w1 ⟨rfl, hu⟩
  have HU1 := Lib.hid hu
  clear hu
  go_wp2_with fail
  refine (refSeal_any s _ HS.out).mono ?_
  rintro e w2 ⟨rfl, hu⟩
  have HU2 := Lib.hid (HU1.out.trans hu)
  clear hu HU1
  go_wp2_with fail
  refine (seal_any s _ (by have := HS.out; omega) (HTU.out _ HU2.out)).mono ?_
  rintro e w3 ⟨rfl, hu⟩
  have HU3 := Lib.hid (HU2.out.trans hu)
  clear hu HU2
  go_wp2_with fail
  refine (open_yes s.data.toList _ _ rfl HSS.out (HTU.out _ HU3.out)).mono ?_
  rw [mk_toList]
  rintro e w4 ⟨rfl, hu⟩
  have HU4' := Lib.hid (HU3.out.trans hu)
  clear hu HU3
  go_wp2_with fail
  refine (open_yes u _ _ rfl (by rw [hsz]; have := HU4.out; omega) (HTU.out _ HU4'.out)).mono ?_
  rintro e w5 ⟨rfl, hu⟩
  have HU5 := Lib.hid (HU4'.out.trans hu)
  clear hu HU4'
  go_wp2_with fail
  rw [HX.out]
  refine (refSeal_any _ _ (by show u.length ≤ _; have := HU4.out; omega)).mono ?_
  rintro e w6 ⟨rfl, hu⟩
  have HU6 := Lib.hid (HU5.out.trans hu)
  clear hu HU5
  go_wp2_with fail
  refine (seal_any _ _ (by show u.length ≤ _; have := HU4.out; omega) (HTU.out _ HU6.out)).mono ?_
  rintro e w7 ⟨rfl, hu⟩
  have HU7 := Lib.hid (HU6.out.trans hu)
  clear hu HU6
  go_wp2_with fail
  go_ret
  exact ⟨rfl, HU7.out.below (fun _ _ h => h)⟩

set_option maxRecDepth 20000 in
set_option maxHeartbeats 1600000 in
theorem crcSeals_short (s t : ByteArray) (w : World) (hs : s.size ≤ 140737488351232) (ht : t.size ≤ 140737488351232) (hno : ∀ u, t.data.toList ≠ sealed u) (h4 : t.size < 4) (hT : Tab w) :
    Calls Tryd.prog 4 #[.string s, .string t] w fun e w' => e = .returned (.bool true) ∧ Below w.heap.size w w' := by
  have HTU := Lib.hid (fun (x : World) (hx : Upd noBlock w x) => hT.upd hx)
  have HS := Lib.hid hs
  have HTS := Lib.hid ht
  have HNO := Lib.hid hno
  have h5 : decide ((4 : Int) ≤ (t.size : Int)) = false := decide_eq_false (by omega)
  clear ht h4
  have HSS : Hid ((ByteArray.mk (sealed s.data.toList).toArray).size ≤ 281474976710656) := by
    show (sealed s.data.toList).length ≤ _
    rw [sealed_length]
    have : s.data.toList.length = s.size := rfl
    omega
  clear hs hT hno
  go_enter Tryd.func4, Tryd.ntmps4
  go_wp2_with fail
  refine (speaks3_any _ (HTU.out _ (Upd.refl _ _))).mono ?_
  rintro e w1 ⟨rfl, rfl⟩
  go_wp2_with fail
  refine (seal_any s _ (by have := HS.out; omega) (HTU.out _ (Upd.refl _ _))).mono ?_
  rintro e w1 ⟨rfl, hu⟩
  have HU1 := Lib.hid hu
  clear hu
  go_wp2_with fail
  refine (refSeal_any s _ HS.out).mono ?_
  rintro e w2 ⟨rfl, hu⟩
  have HU2 := Lib.hid (HU1.out.trans hu)
  clear hu HU1
  go_wp2_with fail
  refine (seal_any s _ (by have := HS.out; omega) (HTU.out _ HU2.out)).mono ?_
  rintro e w3 ⟨rfl, hu⟩
  have HU3 := Lib.hid (HU2.out.trans hu)
  clear hu HU2
  go_wp2_with fail
  refine (open_yes s.data.toList _ _ rfl HSS.out (HTU.out _ HU3.out)).mono ?_
  rw [mk_toList]
  rintro e w4 ⟨rfl, hu⟩
  have HU4' := Lib.hid (HU3.out.trans hu)
  clear hu HU3
  go_wp2_with fail
  refine (open_no t _ HNO.out (by have := HTS.out; omega) (HTU.out _ HU4'.out)).mono ?_
  rintro e w5 ⟨rfl, hu⟩
  have HU5 := Lib.hid (HU4'.out.trans hu)
  clear hu HU4'
  go_wp2_with fail
  go_ret
  exact ⟨rfl, HU5.out.below (fun _ _ h => h)⟩

set_option maxRecDepth 20000 in
set_option maxHeartbeats 1600000 in
theorem crcSeals_long (s t : ByteArray) (w : World) (hs : s.size ≤ 140737488351232) (ht : t.size ≤ 140737488351232) (hno : ∀ u, t.data.toList ≠ sealed u) (n : Nat) (h4 : t.size = n + 4) (hT : Tab w) :
    Calls Tryd.prog 4 #[.string s, .string t] w fun e w' => e = .returned (.bool true) ∧ Below w.heap.size w w' := by
  have HTU := Lib.hid (fun (x : World) (hx : Upd noBlock w x) => hT.upd hx)
  have HS := Lib.hid hs
  have HTS := Lib.hid ht
  have HNO := Lib.hid hno
  have hnl : n ≤ 140737488351232 := by omega
  clear ht
  have HSS : Hid ((ByteArray.mk (sealed s.data.toList).toArray).size ≤ 281474976710656) := by
    show (sealed s.data.toList).length ≤ _
    rw [sealed_length]
    have : s.data.toList.length = s.size := rfl
    omega
  clear hs hT hno
  go_enter Tryd.func4, Tryd.ntmps4
  go_wp2_with fail
  refine (speaks3_any _ (HTU.out _ (Upd.refl _ _))).mono ?_
  rintro e w1 ⟨rfl, rfl⟩
  go_wp2_with fail
  refine (seal_any s _ (by have := HS.out; omega) (HTU.out _ (Upd.refl _ _))).mono ?_
  rintro e w1 ⟨rfl, hu⟩
  have HU1 := Lib.hid hu
  clear hu
  go_wp2_with fail
  refine (refSeal_any s _ HS.out).mono ?_
  rintro e w2 ⟨rfl, hu⟩
  have HU2 := Lib.hid (HU1.out.trans hu)
  clear hu HU1
  go_wp2_with fail
  refine (seal_any s _ (by have := HS.out; omega) (HTU.out _ HU2.out)).mono ?_
  rintro e w3 ⟨rfl, hu⟩
  have HU3 := Lib.hid (HU2.out.trans hu)
  clear hu HU2
  go_wp2_with fail
  refine (open_yes s.data.toList _ _ rfl HSS.out (HTU.out _ HU3.out)).mono ?_
  rw [mk_toList]
  rintro e w4 ⟨rfl, hu⟩
  have HU4' := Lib.hid (HU3.out.trans hu)
  clear hu HU3
  go_wp2_with fail
  refine (open_no t _ HNO.out (by have := HTS.out; omega) (HTU.out _ HU4'.out)).mono ?_
  rintro e w5 ⟨rfl, hu⟩
  have HU5 := Lib.hid (HU4'.out.trans hu)
  clear hu HU4'
  go_wp2_with fail
  refine (refSeal_any _ _ (by simp; have := HTS.out; omega)).mono ?_
  rw [extract_pre]
  rintro e w6 ⟨rfl, hu⟩
  have HU6 := Lib.hid (HU5.out.trans hu)
  clear hu HU5
  have HU5 := HU6
  clear HU6
  have hne : ¬ sealed (t.data.toList.take n) = t.toList := fun e => HNO.out (t.data.toList.take n) (by rw [e, ByteArray.toList_eq])
  have hneb : (sealed (t.data.toList.take n) == t.toList) = false := beq_eq_false_iff_ne.2 hne
  clear hne
  go_wp2_with fail
  go_ret
  exact ⟨rfl, HU5.out.below (fun _ _ h => h)⟩

theorem crcSeals_walk (s t : ByteArray) (w : World) (hs : s.size ≤ 140737488351232) (ht : t.size ≤ 140737488351232) (hT : Tab w) :
    Calls Tryd.prog 4 #[.string s, .string t] w fun e w' => e = .returned (.bool true) ∧ Below w.heap.size w w' := by
  by_cases h : ∃ u, t.data.toList = sealed u
  · obtain ⟨u, hu⟩ := h
    have e : t = ⟨(sealed u).toArray⟩ := by
      apply ByteArray.ext
      apply Array.ext'
      exact hu
    have hl : t.size = u.length + 4 := by
      have h1 : t.data.toList.length = t.size := rfl
      rw [← h1, hu]; exact sealed_length u
    subst e
    exact crcSeals_yes s u w hs (by omega) hT
  · have hno : ∀ u, t.data.toList ≠ sealed u := fun u hu => h ⟨u, hu⟩
    by_cases h4 : t.size < 4
    · exact crcSeals_short s t w hs ht hno h4 hT
    · exact crcSeals_long s t w hs ht hno (t.size - 4) (by omega) hT
end Go.Proofs.YtgnhapdccmbcjaaDoor
