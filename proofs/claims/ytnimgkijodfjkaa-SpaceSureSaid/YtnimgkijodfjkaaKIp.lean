/- The document's Degree and Encode: long division. -/
import Derived.Test.YtnimgkijodfjkaaKGIo
import Derived.Test.YtnimgkijodfjkaaKDc
import Derived.Test.YtnimgkijodfjkaaKGHu
namespace Go.Proofs.Ytnimgkijodfjkaa
open Go.RowKit Pm

theorem gen_cell (t : Nat) (h1 : 1 ≤ t) (h8 : t ≤ 8) (k : Nat) (hk : k < (exps (GG t)).length) : ∃ e : Nat, (exps (GG t)).getD k 0 = (e : Int) ∧ e ≤ 13 * t := by
  obtain ⟨he, _, htl⟩ := gen_list t h1 h8
  rw [he] at hk ⊢
  cases k with
  | zero => exact ⟨13 * t, rfl, Nat.le_refl _⟩
  | succ k =>
    obtain ⟨e, h, hl⟩ := htl k (by simpa using hk)
    exact ⟨e, h, by omega⟩
theorem gen_head (t : Nat) (h1 : 1 ≤ t) (h8 : t ≤ 8) : (exps (GG t)).getD 0 0 = ((13 * t : Nat) : Int) ∧ 0 < (exps (GG t)).length ∧ (exps (GG t)).length ≤ 105 := by
  obtain ⟨he, hl, _⟩ := gen_list t h1 h8
  refine ⟨by rw [he]; rfl, by rw [he]; simp, hl⟩
theorem gg_same (t : Nat) (h8 : t ≤ 8) : Doc.GG t = GG t := by rw [Doc.GG_val t h8, GG_val t h8]; rfl
/-- the document's Generator, as a list -/
theorem docGen_any (t : Nat) (ht1 : 1 ≤ t) (ht8 : t ≤ 8) (W : World) : Calls Try.prog 32 #[.int .i64 (t : Int)] W fun e w' => ∃ p n c, e = .returned (.slice p n c) ∧ Ints w' w'.heap.size p n (exps (GG t)) ∧ n ≤ c ∧ n ≤ maxLen ∧ Upd noBlock W w' :=
  (Doc.rGenerator_any t W ht1 ht8).mono fun e w' ⟨v, he, hp, hu⟩ => by
    rw [gg_same t ht8] at hp
    obtain ⟨p, n, c, rfl, h1, h2, h3, _⟩ := hp.gp (Nat.le_refl _)
    exact ⟨p, n, c, he, h1, h3, h2, hu⟩
set_option maxRecDepth 100000 in
theorem refDegree_any (t : Nat) (w : World) (ht1 : 1 ≤ t) (ht8 : t ≤ 8) :
    Calls Try.prog 23 #[.int .i64 (t : Int)] w fun e w' => e = .returned (.int .i64 ((13 * t : Nat) : Int)) ∧ Upd noBlock w w' := by
  obtain ⟨hg, hg0, _⟩ := gen_head t ht1 ht8
  have HGEN := Lib.hid (docGen_any t ht1 ht8)
  generalize exps (GG t) = L at *
  generalize 13 * t = d at *
  have HD := Lib.hid hg
  clear hg ht1 ht8
  go_enter Try.func23, Try.ntmps23
  go_wp2_with (go_at_call 32; refine (HGEN.out _).mono ?_; rintro e w1 ⟨p, n, c, rfl, hi1, hnc, hnm, hu1⟩; have HL := Lib.hid hi1.1; have hn0 : 0 < n := (by have := HL.out; omega); obtain ⟨g, off, rfl, hgl, hc1⟩ := hi1.cell hn0; have k0 := hc1 0 hn0; rw [HD.out, Nat.add_zero] at k0; have U1 := Lib.hid hu1; clear hc1 hi1 hu1)
  go_ret
  exact ⟨rfl, U1.out⟩
theorem flp_take (L : List Int) (j b p : Nat) (hj : j < L.length) : flp (L.take (j + 1)) b p = (flp (L.take j) b p != decide (p = b - (L.getD j 0).toNat)) := by
  rw [List.take_succ_eq_append_getElem hj, flp_snoc, List.getD_eq_getElem?_getD, List.getElem?_eq_getElem hj]
  rfl
theorem bi_xor1 (b : Bool) : bits .xor .i64 (bi b) 1 = bi (!b) := by cases b <;> decide +kernel
end Go.Proofs.Ytnimgkijodfjkaa
