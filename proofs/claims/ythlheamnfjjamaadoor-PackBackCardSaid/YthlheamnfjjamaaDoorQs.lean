/- The packer speaks. -/
import Derived.Test.YthlheamnfjjamaaDoorQd
import Derived.Deep.CutRange
import Derived.DataShut
namespace Go.Proofs.YthlheamnfjjamaaDoor
open Go.RowKit

theorem spk1 (g : Nat) (w : World) (h : w.heap[g]? = some (.cells #[.int .i64 3, .int .i64 0, .int .i64 0, .slice none 0 0] 100 (0, 0))) :
    Calls Tryd.prog 31 #[.pointer (some ⟨g, 0, none⟩), .string ⟨#[97, 98]⟩] w fun e w' => e = .returned (.tuple #[.string ⟨#[]⟩, .bool false, .int .i64 0]) ∧ PK w' w.heap.size g 3 (ByteArray.mk #[97, 98]).data.toList 0 ∧ Turn w.heap.size g w w' := by
  have e : addQ 3 ⟨#[]⟩ ⟨#[97, 98]⟩ = (⟨#[]⟩, false, 0, ⟨#[97, 98]⟩, 0) := by decide +kernel
  have := add_any w.heap.size g 3 0 ⟨#[]⟩ ⟨#[97, 98]⟩ w (PK.start (s := 3) h (Upd.refl _ _) (by decide) (by decide) (lt_of_block h) (Nat.le_refl _)) (by decide) (by decide)
  rw [e] at this
  exact this
theorem spk2 (B g : Nat) (w : World) (h : PK w B g 3 (ByteArray.mk #[97, 98]).data.toList 0) :
    Calls Tryd.prog 31 #[.pointer (some ⟨g, 0, none⟩), .string ⟨#[99]⟩] w fun e w' => e = .returned (.tuple #[.string ⟨#[]⟩, .bool false, .int .i64 0]) ∧ PK w' B g 3 (ByteArray.mk #[97, 98, 99]).data.toList 0 ∧ Turn B g w w' := by
  have e : addQ 3 ⟨#[97, 98]⟩ ⟨#[99]⟩ = (⟨#[]⟩, false, 0, ⟨#[97, 98, 99]⟩, 0) := by decide +kernel
  have := add_any B g 3 0 ⟨#[97, 98]⟩ ⟨#[99]⟩ w h (by decide) (by decide)
  rw [e] at this
  exact this
theorem spk3 (B g : Nat) (w : World) (h : PK w B g 3 (ByteArray.mk #[97, 98, 99]).data.toList 0) :
    Calls Tryd.prog 31 #[.pointer (some ⟨g, 0, none⟩), .string ⟨#[100]⟩] w fun e w' => e = .returned (.tuple #[.string ⟨#[97, 98, 99]⟩, .bool true, .int .i64 0]) ∧ Turn B g w w' := by
  have e : addQ 3 ⟨#[97, 98, 99]⟩ ⟨#[100]⟩ = (⟨#[97, 98, 99]⟩, true, 0, ⟨#[100]⟩, 1) := by decide +kernel
  have := add_any B g 3 0 ⟨#[97, 98, 99]⟩ ⟨#[100]⟩ w h (by decide) (by decide)
  rw [e] at this
  exact this.mono fun _ _ h => ⟨h.1, h.2.2⟩
set_option maxRecDepth 20000 in
theorem speaksQ (w : World) : Calls Tryd.prog 27 #[] w fun e w' => e = .returned (.bool true) ∧ Upd noBlock w w' := by
  have HN := Lib.hid (fun w => packNew 3 w (by decide) (by decide))
  go_enter Tryd.func27, Tryd.ntmps27
  go_wp2_with (first
    | (go_at_call 30; (with_reducible refine (HN.out _).mono ?_); rintro e w1 ⟨g, rfl, hg, hb, hu⟩; have HG := Lib.hid hg; have HB := Lib.hid hb; have HU := Lib.hid hu; clear hg hb hu)
    | (go_at_call 31; (with_reducible refine (spk1 g _ HB.out).mono ?_); rintro e w2 ⟨rfl, hp, ht⟩; have HP2 := Lib.hid hp; have HT2 := Lib.hid ht; clear hp ht)
    | (go_at_call 31; (with_reducible refine (spk2 _ g _ HP2.out).mono ?_); rintro e w3 ⟨rfl, hp, ht⟩; have HP3 := Lib.hid hp; have HT3 := Lib.hid ht; clear hp ht)
    | (go_at_call 31; (with_reducible refine (spk3 _ g _ HP3.out).mono ?_); rintro e w4 ⟨rfl, ht⟩; have HT4 := Lib.hid ht; clear ht))
  go_ret
  exact ⟨rfl, ((HT2.out.trans HT3.out).trans HT4.out).upd HU.out HU.out.size (.inr HG.out)⟩
end Go.Proofs.YthlheamnfjjamaaDoor
