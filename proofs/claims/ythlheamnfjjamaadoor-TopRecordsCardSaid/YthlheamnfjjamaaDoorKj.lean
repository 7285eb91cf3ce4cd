/- key.Decode, whole. -/
import Derived.Test.YthlheamnfjjamaaDoorKia
import Derived.Test.YthlheamnfjjamaaDoorKib
import Derived.Test.YthlheamnfjjamaaDoorKic
namespace Go.Proofs.YthlheamnfjjamaaDoor
open Go.RowKit
attribute [local irreducible] beZ valN

set_option maxRecDepth 20000 in
set_option maxHeartbeats 3200000 in
theorem Decode_any (l : List UInt8) (w : World) (hl : l.length ≤ 281474976710656) :
    Calls Tryd.prog 35 #[.string ⟨l.toArray⟩] w fun e w' => e = .returned (.tuple #[decV l, .bool (decOk l)]) ∧ Upd noBlock w w' := by
  by_cases h9 : 9 ≤ l.length
  · have HO8 := fun W => Of_any (l.take 8) W (by rw [List.length_take]; unfold maxLen; omega)
    have HO9 := fun W => Of_any (l.drop 9) W (by rw [List.length_drop]; unfold maxLen; omega)
    have HCL : ∀ W, Calls Tryd.prog 58 #[.string ⟨(l.drop 9).toArray⟩] W fun e w' => e = .returned (.string ⟨(l.drop 9).toArray⟩) ∧ Upd noBlock W w' := fun W => clone_anyK _ W (by show (l.drop 9).length ≤ _; rw [List.length_drop]; omega)
    have HEN := fun W => Encode_any (numL l) (kindL l) (nameL l) (pieceL l) W (by unfold nameL maxLen; split <;> simp [List.length_drop]; omega)
    have hzE : (encK (numL l) (kindL l) (nameL l) (pieceL l)).length ≤ l.length + 20 := by
      unfold encK nameL
      rw [List.length_append, List.length_append, beZ_length, beZ_length]
      split
      · rw [List.length_drop]; omega
      · split
        · rw [beZ_length]; omega
        · simp
    have hdo : decOk l = (goodK (numL l) (kindL l) (nameL l) (pieceL l) && (encK (numL l) (kindL l) (nameL l) (pieceL l) == l)) := by simp [decOk, h9]
    have hk : ∃ c : UInt8, l[8]? = some c ∧ kindL l = (c.toNat : Int) := ⟨l[8], by rw [List.getElem?_eq_getElem (by omega)], by unfold kindL; rw [List.getD_eq_getElem?_getD, List.getElem?_eq_getElem (by omega)]; rfl⟩
    obtain ⟨c, hc, hkc⟩ := hk
    have hx8 : (ByteArray.mk l.toArray).extract 0 8 = ⟨(l.take 8).toArray⟩ := by apply ByteArray.ext; apply Array.ext'; simp
    have hx9 : (ByteArray.mk l.toArray).extract 9 l.length = ⟨(l.drop 9).toArray⟩ := by
      apply ByteArray.ext; apply Array.ext'; simp
      exact List.take_of_length_le (by simp)
    have hat : ∀ h : 8 < (ByteArray.mk l.toArray).size, ((ByteArray.mk l.toArray)[8]'h).toNat = c.toNat := fun h => by
      obtain ⟨_, e⟩ := List.getElem?_eq_some_iff.1 hc
      rw [← e]; rfl
    have htl := toL l
    have hnum : wrap64 ((valN (l.take 8) : Nat) : Int) = numL l := rfl
    rw [hnum] at HO8
    obtain ⟨q, hq⟩ : ∃ q : ByteArray, ⟨l.toArray⟩ = q := ⟨_, rfl⟩
    have hsz : q.size = l.length := by rw [← hq]; rfl
    have hn : l.length ≤ 9223372036854775807 := by omega
    obtain ⟨q8, hq8⟩ : ∃ q : ByteArray, ⟨(l.take 8).toArray⟩ = q := ⟨_, rfl⟩
    obtain ⟨q9, hq9⟩ : ∃ q : ByteArray, ⟨(l.drop 9).toArray⟩ = q := ⟨_, rfl⟩
    have hnm : (⟨(nameL l).toArray⟩ : ByteArray) = if kindL l = 2 then q9 else ⟨#[]⟩ := by
      unfold nameL
      split
      · exact hq9
      · rfl
    have hp : pieceL l = if kindL l = 3 then wrap64 ((valN (l.drop 9) : Nat) : Int) else 0 := rfl
    rw [hq] at hx8 hx9 hat htl
    rw [hq8] at hx8 HO8
    rw [hq9] at hx9 HO9 HCL
    have hnl : ¬ (l.length : Int) < 9 := by omega
    rw [hq]
    unfold decV keyV
    rw [hdo, hnm]
    rw [hnm] at HEN
    clear hq hq8 hq9 hnm hnum hdo hc
    have HE9 : ∃ (g e : Bool) (qe : ByteArray), goodK (numL l) (kindL l) (nameL l) (pieceL l) = g ∧ (encK (numL l) (kindL l) (nameL l) (pieceL l) == l) = e ∧ ⟨(if g then encK (numL l) (kindL l) (nameL l) (pieceL l) else []).toArray⟩ = qe ∧ (g = true → (qe.toList == q.toList) = e) ∧ qe.size ≤ 281474976710700 := by
      refine ⟨_, _, _, rfl, rfl, rfl, fun h => ?_, ?_⟩
      · rw [h, htl, if_pos rfl, toL]
      · split
        · show (encK _ _ _ _).length ≤ _; omega
        · show ([] : List UInt8).length ≤ _; simp
    obtain ⟨g, e, qe, hg, he, hqe, hge, hqz⟩ := HE9
    simp only [hg] at HEN ⊢
    rw [hqe] at HEN
    rw [he]
    clear hg he hqe hzE
    generalize numL l = n at *
    generalize kindL l = k at *
    generalize pieceL l = p at *
    subst hkc
    have hm8 : c.toNat < 256 := c.toNat_lt
    generalize c.toNat = m at *
    have hw1 : IntKind.i64.wrap (m : Int) = (m : Int) := wrap_i64_nat m (by omega)
    have hw2 : wrap64 (m : Int) = (m : Int) := by unfold wrap64; omega
    generalize l.length = len at *
    replace HO8 := Lib.hid HO8
    by_cases k2 : (m : Int) = 2
    · have k3 : ¬ (m : Int) = 3 := by omega
      simp only [if_pos k2] at HEN ⊢
      rw [if_neg k3] at hp
      subst hp
      exact decode_k2 l q q8 q9 qe m _ n g e w htl hat hx8 hx9 hge hqz h9 hsz hn hnl hw1 hw2 HO8 HEN HCL (by simpa using k2) (by simpa using k3)
    · by_cases k3 : (m : Int) = 3
      · simp only [if_neg k2] at HEN ⊢
        rw [if_pos k3] at hp
        rw [← hp] at HO9
        exact decode_k3 l q q8 q9 qe m _ n p g e w htl hat hx8 hx9 hge hqz h9 hsz hn hnl hw1 hw2 HO8 HEN HO9 (by simpa using k2) (by simpa using k3)
      · simp only [if_neg k2] at HEN ⊢
        rw [if_neg k3] at hp
        subst hp
        exact decode_kx l q q8 q9 qe m _ n g e w htl hat hx8 hx9 hge hqz h9 hsz hn hnl hw1 hw2 HO8 HEN (by simpa using k2) (by simpa using k3)
  · have hd : decOk l = false := by simp [decOk, h9]
    unfold decV
    rw [hd, if_neg (by decide)]
    have hlt : (l.length : Int) < 9 := by omega
    obtain ⟨q, hq⟩ : ∃ q : ByteArray, ⟨l.toArray⟩ = q := ⟨_, rfl⟩
    have hsz : q.size = l.length := by rw [← hq]; rfl
    have hn : l.length ≤ 9223372036854775807 := by omega
    rw [hq]
    clear hq hd h9 hl
    unfold keyV
    go_enter Tryd.func35, Tryd.ntmps35
    go_wp2_with fail
    exact bodyPost_ret_by (ret_cell2K rfl _ _ w.heap.size _ #[.int .i64 0, .int .i64 0, .string ⟨#[]⟩, .int .i64 0] _ _ _ rfl (heap_alloc_new w _) Tryd.underlying79 rfl keyInfo rfl) rfl ⟨rfl, (Upd.refl _ _).alloc _⟩
end Go.Proofs.YthlheamnfjjamaaDoor
