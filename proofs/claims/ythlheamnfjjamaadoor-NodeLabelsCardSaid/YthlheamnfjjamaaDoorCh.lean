/- Walks: CrcSeals. -/
import Derived.Test.YthlheamnfjjamaaDoorCf
import Derived.Test.YthlheamnfjjamaaDoorCg
namespace Go.Proofs.YthlheamnfjjamaaDoor
open Go.RowKit Cm
attribute [local irreducible] Cm.shs Cm.nxt Cm.reg Cm.ext

theorem slb_length (c : Nat) : (slb c).length = 4 := rfl
theorem open_yes (t : List UInt8) (s : ByteArray) (w : World) (h : s.data.toList = sealed t) (hs : s.size ≤ 281474976710656) (hT : Tab w) :
    Calls Tryd.prog 44 #[.string s] w fun e w' => e = .returned (.tuple #[.string ⟨t.toArray⟩, .bool true]) ∧ Upd noBlock w w' := by
  have hl : s.size = t.length + 4 := by
    have h1 : s.data.toList.length = s.size := rfl
    rw [← h1, h]; exact sealed_length t
  have ht : s.data.toList.take t.length = t := by rw [h]; unfold sealed; exact List.take_left
  have hd : s.data.toList.drop t.length = slb (ext 0 t) := by rw [h]; unfold sealed; exact List.drop_left
  have e : s.extract 0 t.length = ⟨t.toArray⟩ := by
    apply ByteArray.ext
    apply Array.ext'
    show (s.extract 0 t.length).data.toList = t
    rw [extract_pre, ht]
  have := open_four s t.length true w hl hs hT (by rw [ht, hd]; simp)
  rw [if_pos rfl, e] at this
  exact this
set_option maxRecDepth 20000 in
theorem open_no (s : ByteArray) (w : World) (h : ∀ t, s.data.toList ≠ sealed t) (hs : s.size ≤ 281474976710656) (hT : Tab w) :
    Calls Tryd.prog 44 #[.string s] w fun e w' => e = .returned (.tuple #[.string ⟨#[]⟩, .bool false]) ∧ Upd noBlock w w' := by
  by_cases h4 : 4 ≤ s.size
  · refine open_four s (s.size - 4) false w (by omega) hs hT (decide_eq_false fun hd => h (s.data.toList.take (s.size - 4)) ?_)
    unfold sealed
    rw [← hd, List.take_append_drop]
  · have h5 : (s.size : Int) - 4 < 0 := by omega
    clear h hT
    go_enter Tryd.func44, Tryd.ntmps44
    go_wp2
    go_ret2
    exact ⟨rfl, Upd.refl _ _⟩
theorem mk_toList (s : ByteArray) : (⟨s.data.toList.toArray⟩ : ByteArray) = s := rfl

end Go.Proofs.YthlheamnfjjamaaDoor
