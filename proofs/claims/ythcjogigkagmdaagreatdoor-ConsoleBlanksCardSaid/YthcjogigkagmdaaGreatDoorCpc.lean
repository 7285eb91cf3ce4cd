/- lineOf, showField. -/
import Derived.Test.YthcjogigkagmdaaGreatDoorCpb
namespace Go.Proofs.YthcjogigkagmdaaGreatDoor
open Go.RowKit
set_option linter.unusedVariables false

/-- strings in a row, as Join wants them -/
def StrR (w : World) (B : Nat) (v : Value) (xs : List ByteArray) : Prop := w.ownsRow B 9 1 v xs.length (xs.map Value.string)
theorem StrR.form {w : World} {B : Nat} {v : Value} {xs : List ByteArray} (h : StrR w B v xs) (h0 : 0 < xs.length) : ∃ g c, v = .slice (some ⟨g, 0, none⟩) xs.length c ∧ xs.length ≤ c ∧ B ≤ g ∧ g < w.heap.size ∧ ∀ (j : Nat) x, xs[j]? = some x → w.cell? ⟨g, 0 + j, none⟩ = some (.string x) := by
  obtain ⟨g, c, hv, hb, hg, hc⟩ := own_cells h h0
  have hcap : xs.length ≤ c := by
    rcases h.2 with ⟨h1, h2⟩ | ⟨g', cap, cur, h1, _, _, h3, _⟩
    · omega
    · rw [hv] at h1; cases h1; exact h3
  refine ⟨g, c, hv, hcap, hb, hg, fun j x hx => ?_⟩
  rw [Nat.zero_add]
  exact hc j _ (by rw [List.getElem?_map, hx]; rfl)
def lineB (xs : List ByteArray) : List UInt8 := Lib.join (xs.map (·.data.toList)) [32] ++ [10]
theorem lineOf_any (B : Nat) (v : Value) (xs : List ByteArray) (w : World) (h : StrR w B v xs) (h0 : 0 < xs.length) (hN : xs.length ≤ 1048576) (hlen : (lineB xs).length ≤ 140737488355328) :
    Calls Tryz.prog 30 #[v] w fun e w' => e = .returned (.string ⟨(lineB xs).toArray⟩) ∧ Upd noBlock w w' := by
  obtain ⟨g, c, rfl, hcap, hb, hg, hc⟩ := h.form h0
  unfold lineB at hlen
  rw [List.length_append] at hlen
  have HJ := Lib.hid (Tryz.strings_Join g 0 c xs ⟨#[32]⟩ w hc hg (by omega) hcap (by simp only [List.length_singleton] at hlen; show (Lib.join _ [32]).length ≤ _; omega))
  obtain ⟨s, hs⟩ : ∃ s : ByteArray, (⟨(Lib.join (xs.map (·.data.toList)) [32]).toArray⟩ : ByteArray) = s := ⟨_, rfl⟩
  have hov : ¬ (9223372036854775807 < s.size + 1) := by
    have : s.size = (Lib.join (xs.map (·.data.toList)) [32]).length := by rw [← hs]; rfl
    simp only [List.length_singleton] at hlen
    omega
  have HE : Hid (s ++ (⟨#[10]⟩ : ByteArray) = ⟨(lineB xs).toArray⟩) := by
    show _ = _
    rw [← hs]
    unfold lineB
    apply ByteArray.ext
    simp
  rw [show (⟨#[32]⟩ : ByteArray).data.toList = [32] from rfl, hs] at HJ
  clear hlen hc hs h
  go_enter Tryz.func30, Tryz.ntmps30
  go_wp2_with (go_at_call 45; (with_reducible refine HJ.out.mono ?_); rintro e w1 ⟨rfl, hu⟩; have U1 := Lib.hid (Upd.of_below hu noBlock); clear hu)
  go_ret
  exact ⟨by rw [← HE.out]; rfl, U1.out⟩
set_option maxRecDepth 100000 in
theorem showField_any (b : Nat) (a : Con.A6) (c : UInt8) (w : World) (hg : Gl w) (hb : w.heap[b]? = some (.cells (actC a) 64 (0, 0)))
    (h1 : a.path.size ≤ 1099511627776) (h2 : a.dest.size ≤ 1099511627776) (h3 : a.data.size ≤ 1099511627776) (hof : -9223372036854775808 ≤ a.off ∧ a.off ≤ 9223372036854775807) (hsz : -9223372036854775808 ≤ a.size ∧ a.size ≤ 9223372036854775807) :
    Calls Tryz.prog 42 #[.pointer (some ⟨b, 0, none⟩), .int .u8 (c.toNat : Int)] w fun e w' => e = .returned (.string ⟨(Con.showFd a c).toArray⟩) ∧ Upd noBlock w w' := by
  obtain ⟨⟨c0, c1, c2, c3, c4, c5⟩, _⟩ := six_cells hb
  have HT := Lib.hid (textOf_any b c w)
  have HN := Lib.hid (numberOf_any b c w)
  have Q1 := Lib.hid (quote_any a.path w h1)
  have Q2 := Lib.hid (quote_any a.dest w h2)
  have Q3 := Lib.hid (quote_any a.data w h3)
  have I4 := Lib.hid (itoa_any a.off hof.1 hof.2 w hg)
  have I5 := Lib.hid (itoa_any a.size hsz.1 hsz.2 w hg)
  unfold Con.showFd
  by_cases e1 : c = 80
  · rw [if_pos e1]
    rw [show textAt c = some 1 from by unfold textAt; rw [if_pos e1]] at HT
    unfold ptrO at HT
    clear e1
    go_enter Tryz.func42, Tryz.ntmps42
    go_wp2_with (first
      | (go_at_call 57; (with_reducible refine HT.out.mono ?_); rintro e w1 ⟨rfl, rfl⟩)
      | (go_at_call 44; (with_reducible refine Q1.out.mono ?_); rintro e w1 ⟨rfl, hu⟩; have U1 := Lib.hid hu; clear hu))
    go_ret
    exact ⟨rfl, U1.out⟩
  rw [if_neg e1]
  by_cases e2 : c = 81
  · rw [if_pos e2]
    rw [show textAt c = some 2 from by unfold textAt; rw [if_neg e1, if_pos e2]] at HT
    unfold ptrO at HT
    clear e1 e2
    go_enter Tryz.func42, Tryz.ntmps42
    go_wp2_with (first
      | (go_at_call 57; (with_reducible refine HT.out.mono ?_); rintro e w1 ⟨rfl, rfl⟩)
      | (go_at_call 44; (with_reducible refine Q2.out.mono ?_); rintro e w1 ⟨rfl, hu⟩; have U1 := Lib.hid hu; clear hu))
    go_ret
    exact ⟨rfl, U1.out⟩
  rw [if_neg e2]
  by_cases e3 : c = 68
  · rw [if_pos e3]
    rw [show textAt c = some 3 from by unfold textAt; rw [if_neg e1, if_neg e2, if_pos e3]] at HT
    unfold ptrO at HT
    clear e1 e2 e3
    go_enter Tryz.func42, Tryz.ntmps42
    go_wp2_with (first
      | (go_at_call 57; (with_reducible refine HT.out.mono ?_); rintro e w1 ⟨rfl, rfl⟩)
      | (go_at_call 44; (with_reducible refine Q3.out.mono ?_); rintro e w1 ⟨rfl, hu⟩; have U1 := Lib.hid hu; clear hu))
    go_ret
    exact ⟨rfl, U1.out⟩
  rw [if_neg e3]
  rw [show textAt c = none from by unfold textAt; rw [if_neg e1, if_neg e2, if_neg e3]] at HT
  unfold ptrO at HT
  by_cases e4 : c = 79
  · rw [if_pos e4]
    rw [show numAt c = 4 from by unfold numAt; rw [if_pos e4]] at HN
    clear e1 e2 e3 e4
    go_enter Tryz.func42, Tryz.ntmps42
    go_wp2_with (first
      | (go_at_call 57; (with_reducible refine HT.out.mono ?_); rintro e w1 ⟨rfl, rfl⟩)
      | (go_at_call 58; (with_reducible refine HN.out.mono ?_); rintro e w1 ⟨rfl, rfl⟩)
      | (go_at_call 31; (with_reducible refine I4.out.mono ?_); rintro e w1 ⟨rfl, hu⟩; have U1 := Lib.hid hu; clear hu))
    go_ret
    exact ⟨rfl, U1.out⟩
  · rw [if_neg e4]
    rw [show numAt c = 5 from by unfold numAt; rw [if_neg e4]] at HN
    clear e1 e2 e3 e4
    go_enter Tryz.func42, Tryz.ntmps42
    go_wp2_with (first
      | (go_at_call 57; (with_reducible refine HT.out.mono ?_); rintro e w1 ⟨rfl, rfl⟩)
      | (go_at_call 58; (with_reducible refine HN.out.mono ?_); rintro e w1 ⟨rfl, rfl⟩)
      | (go_at_call 31; (with_reducible refine I5.out.mono ?_); rintro e w1 ⟨rfl, hu⟩; have U1 := Lib.hid hu; clear hu))
    go_ret
    exact ⟨rfl, U1.out⟩
end Go.Proofs.YthcjogigkagmdaaGreatDoor
