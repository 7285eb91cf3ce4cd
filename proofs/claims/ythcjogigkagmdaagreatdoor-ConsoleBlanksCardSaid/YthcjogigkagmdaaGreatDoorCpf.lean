/- Show. -/
import Derived.Test.YthcjogigkagmdaaGreatDoorCpe
import Derived.Test.YthcjogigkagmdaaGreatDoorBu
import Derived.Lib.OthersKept
import Derived.Test.YthcjogigkagmdaaGreatDoorShelf
namespace Go.Proofs.YthcjogigkagmdaaGreatDoor
open Go.RowKit
set_option linter.unusedVariables false

/-! builders of the call's own (as page/XFb has them) -/
theorem own_rowF_keepC {w w' : World} {B : Nat} {e : TypeId} {size : Nat} {v : Value} {n : Nat} {xs : List Value} (h : w.ownsRowF B e size v n xs) {R : Nat → Prop} (hu : Upd R w w') (hR : ∀ i, B ≤ i → ¬ R i) : w'.ownsRowF B e size v n xs := by
  obtain ⟨hl, h⟩ := h
  refine ⟨hl, ?_⟩
  rcases h with h | ⟨g, cap, cur, fz, hv, hb, hg, hr⟩
  · exact .inl h
  · exact .inr ⟨g, cap, cur, fz, hv, hb, (hu.block g (lt_of_block hg) (hR g hb)).trans hg, hr⟩
theorem builderAt_keepC {T e : TypeId} {B b : Nat} {p : Value} {bs : List Value} {w w' : World} (h : Lib.BuilderAtF T e B b p bs w) {R : Nat → Prop} (hu : Upd R w w') (hR : ∀ i, B ≤ i → ¬ R i) : Lib.BuilderAtF T e B b p bs w' := by
  obtain ⟨hB, v, hb, ho, hn⟩ := h
  exact ⟨hB, v, (hu.block b (lt_of_block hb) (hR b hB)).trans hb, own_rowF_keepC ho hu hR, hn⟩
/-- a builder from block B on that holds these bytes -/
def BldC (w : World) (B b : Nat) (l : List UInt8) : Prop := Lib.IsBuilderF 83 5 B b (Lib.byteCells l) w
theorem BldC.grow {w w' : World} {B b : Nat} {l : List UInt8} (h : BldC w B b l) (hu : Upd noBlock w w') : BldC w' B b l := by
  rcases h with h | h
  · exact .inl (builderAt_keepC h hu (fun _ _ h => h))
  · exact .inr (builderAt_keepC h hu (fun _ _ h => h))
theorem BldC.new (w : World) : BldC (w.alloc (.cells #[.pointer none, .slice none 0 0] 83)) w.heap.size w.heap.size [] :=
  .inl ⟨Nat.le_refl _, .slice none 0 0, heap_alloc_new w _, ⟨rfl, .inl ⟨rfl, rfl⟩⟩, by simp [Value.ownBlock]⟩
theorem cwrite_any (B b : Nat) (l : List UInt8) (s : ByteArray) (w : World) (h : BldC w B b l) (hl : l.length + s.size ≤ 140737488355328) (hB : B ≤ w.heap.size) :
    Calls Tryz.prog 23 #[.pointer (some ⟨b, 0, none⟩), .string s] w fun e w' => e = .returned (.tuple #[.int .i64 s.size, .nilIface]) ∧ BldC w' B b (l ++ s.data.toList) ∧ Below B w w' :=
  (bstr_any B b (Lib.byteCells l) s w h (by simpa [Lib.byteCells] using hl) hB).mono fun e w' ⟨h1, h2, h3, h4⟩ => ⟨h1, .inr (by
    have e : Lib.byteCells (l ++ s.data.toList) = Lib.byteCells l ++ Lib.strCells s := by simp [Lib.byteCells, Lib.strCells]
    rw [e]; exact h2), h3⟩
/-- what is old lies below B -/
theorem up_below {w0 w w' : World} {B : Nat} (h0 : Upd noBlock w0 w) (h : Below B w w') (hB : w0.heap.size ≤ B) : Upd noBlock w0 w' :=
  ⟨h.os.trans h0.os, h.tape.trans h0.tape, h.output.trans h0.output, Nat.le_trans h0.size h.size, fun k hk hn => (h.block k (by omega)).trans (h0.block k hk hn)⟩
theorem isAct_any (k : Int) (w : World) : Calls Tryz.prog 25 #[.int .i64 k] w fun e w' => e = .returned (.bool (decide (1 ≤ k) && decide (k ≤ 22))) ∧ w = w' := by
  by_cases h1 : 1 ≤ k
  · have d1 : decide (1 ≤ k) = true := decide_eq_true h1
    rw [d1, Bool.true_and]
    clear h1
    go_enter Tryz.func25, Tryz.ntmps25
    go_wp2
    go_ret
    exact ⟨rfl, rfl⟩
  · have d1 : decide (1 ≤ k) = false := decide_eq_false h1
    rw [d1, Bool.false_and]
    clear h1
    go_enter Tryz.func25, Tryz.ntmps25
    go_wp2
    go_ret
    exact ⟨rfl, rfl⟩
end Go.Proofs.YthcjogigkagmdaaGreatDoor
