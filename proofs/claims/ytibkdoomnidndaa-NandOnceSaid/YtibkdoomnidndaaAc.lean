/- A slice of acts that came in, opened to its cells. -/
import Derived.Test.YtibkdoomnidndaaNr
import Derived.Deep.Slices
import Derived.ChangeArms
namespace Go.Proofs.Ytibkdoomnidndaa
open Go.RowKit Go.WideShapes Go.ChangeShapes Go.Deep

theorem actCells : Try.prog.cellsOf 32 = 5 := by kernel_rfl
theorem intOne : Try.prog.cellsOf 3 = 1 := by kernel_rfl
theorem byteOne : Try.prog.cellsOf 5 = 1 := by kernel_rfl
set_option maxRecDepth 20000 in
theorem act_cells {H : Type} {enc : TypeId × Value → H} {W : World} {base fuel : Nat} {spare : Nat → Bool} {held : Bool} {cs : List Value} {x : DataW H × List MemPlace}
    (h : DataW.trod enc Try.prog W base spare held fuel 32 cs = some x) :
    ∃ x0 x1 x2 x3 x4 : Int, cs = [.int .i64 x0, .int .i64 x1, .int .i64 x2, .int .i64 x3, .int .u8 x4] ∧ (Lit.int .i64 x0).wf = true ∧ (Lit.int .i64 x1).wf = true ∧ (Lit.int .i64 x2).wf = true ∧ (Lit.int .i64 x3).wf = true ∧ (Lit.int .u8 x4).wf = true := by
  obtain ⟨xs, n, _, _, hl, hx, hf⟩ := DataW.trod_struct Try.underlying32 h
  rw [actCells] at hl
  have g0 := hf 0 _ rfl
  have g1 := hf 1 _ rfl
  have g2 := hf 2 _ rfl
  have g3 := hf 3 _ rfl
  have g4 := hf 4 _ rfl
  clear hf h
  match cs, hl with
  | [c0, c1, c2, c3, c4], _ =>
    match xs, hx with
    | [y0, y1, y2, y3, y4], _ =>
      replace g0 : DataW.trod enc Try.prog W base spare held n 3 (([c0, c1, c2, c3, c4].drop 0).take (Try.prog.cellsOf 3)) = some y0 := g0
      rw [intOne] at g0
      replace g1 : DataW.trod enc Try.prog W base spare held n 3 (([c0, c1, c2, c3, c4].drop 1).take (Try.prog.cellsOf 3)) = some y1 := g1
      rw [intOne] at g1
      replace g2 : DataW.trod enc Try.prog W base spare held n 3 (([c0, c1, c2, c3, c4].drop 2).take (Try.prog.cellsOf 3)) = some y2 := g2
      rw [intOne] at g2
      replace g3 : DataW.trod enc Try.prog W base spare held n 3 (([c0, c1, c2, c3, c4].drop 3).take (Try.prog.cellsOf 3)) = some y3 := g3
      rw [intOne] at g3
      replace g4 : DataW.trod enc Try.prog W base spare held n 5 (([c0, c1, c2, c3, c4].drop 4).take (Try.prog.cellsOf 5)) = some y4 := g4
      rw [byteOne] at g4
      obtain ⟨x0, e0, _, w0⟩ := DataW.trod_int Try.underlying3 g0
      obtain ⟨x1, e1, _, w1⟩ := DataW.trod_int Try.underlying3 g1
      obtain ⟨x2, e2, _, w2⟩ := DataW.trod_int Try.underlying3 g2
      obtain ⟨x3, e3, _, w3⟩ := DataW.trod_int Try.underlying3 g3
      obtain ⟨x4, e4, _, w4⟩ := DataW.trod_int Try.underlying5 g4
      refine ⟨x0, x1, x2, x3, x4, ?_, w0, w1, w2, w3, w4⟩
      have e0' : c0 = .int .i64 x0 := by simpa using e0
      have e1' : c1 = .int .i64 x1 := by simpa using e1
      have e2' : c2 = .int .i64 x2 := by simpa using e2
      have e3' : c3 = .int .i64 x3 := by simpa using e3
      have e4' : c4 = .int .u8 x4 := by simpa using e4
      rw [e0', e1', e2', e3', e4']
theorem acts_open {H : Type} {enc : TypeId × Value → H} {W : World} {fuel : Nat} {held : Bool} {a : Option Addr} {len cap : Nat} {x : DataW H × List MemPlace}
    (h : DataW.trod enc Try.prog W 0 (fun _ => true) held fuel 23 [.slice a len cap] = some x) : IsActs W a len ∧ (len = 0 ∨ ∃ L1 L2, x.1 = .slice L1 L2 ∧ L1.length = len) := by
  rcases open_slice Try.underlying23 h with ⟨hcs, _⟩ | ⟨b, l, c, m, n, D, Pl, hcs, _, hlc, hcm, hm, hx, hi⟩
  · simp at hcs
    obtain ⟨rfl, rfl, rfl⟩ := hcs
    exact ⟨fun h0 => absurd h0 (Nat.lt_irrefl _), .inl rfl⟩
  · simp at hcs
    obtain ⟨rfl, rfl, rfl⟩ := hcs
    simp only [if_true] at hm
    subst hm
    clear hcm
    refine ⟨fun h0 => ?_, .inr ⟨_, _, by rw [hx], by simp⟩⟩
    have key : ∀ i, i < len → ∃ x0 x1 x2 x3 x4 : Int, (∀ j, j < 5 → W.cell? (b.add (i * 5 + j)) = [Value.int .i64 x0, .int .i64 x1, .int .i64 x2, .int .i64 x3, .int .u8 x4][j]?) ∧
        ((Lit.int .i64 x0).wf = true ∧ (Lit.int .i64 x1).wf = true ∧ (Lit.int .i64 x2).wf = true ∧ (Lit.int .i64 x3).wf = true ∧ (Lit.int .u8 x4).wf = true) := by
      intro i hil
      obtain ⟨cs', hc, ht⟩ := hi i (by omega)
      rw [actCells] at hc
      obtain ⟨_, _, hat⟩ := World.cells?_some hc
      obtain ⟨x0, x1, x2, x3, x4, rfl, hw⟩ := act_cells ht
      exact ⟨x0, x1, x2, x3, x4, fun j hj => by rw [← add_add]; exact hat j hj, hw⟩
    obtain ⟨y0, _, _, _, _, hc0, _⟩ := key 0 h0
    have hb := hc0 0 (by omega)
    have hs : b.spot = none := by simpa [Addr.add] using World.cell?_spot (show W.cell? (b.add (0 * 5 + 0)) = some (.int .i64 y0) from hb)
    obtain ⟨g, off, spot⟩ := b
    subst hs
    refine ⟨g, off, rfl, World.block_lt_of_cell? W _ (show W.cell? ((⟨g, off, none⟩ : Addr).add (0 * 5 + 0)) = some (.int .i64 y0) from hb), fun i hil => ?_⟩
    obtain ⟨x0, x1, x2, x3, x4, hc, hw⟩ := key i hil
    have hadd : ∀ j, (⟨g, off, none⟩ : Addr).add j = ⟨g, off + j, none⟩ := by
      intro j
      by_cases e : j = 0
      · subst e; simp [Addr.add]
      · simp [Addr.add, e]
    have h0' := hc 0 (by omega)
    have h1' := hc 1 (by omega)
    have h2' := hc 2 (by omega)
    have h3' := hc 3 (by omega)
    have h4' := hc 4 (by omega)
    rw [hadd] at h0' h1' h2' h3' h4'
    exact ⟨x0, x1, x2, x3, x4, h0', h1', h2', h3', h4', hw⟩
theorem nandOnce_walk (a : Option Addr) (len cap : Nat) (x : Int) (w : World) (wa : IsActs w a len ∧ len ≤ 281474976710656) (wx : (Lit.int .u8 x).wf = true) :
    Calls Try.prog 8 #[.slice a len cap, .int .u8 x] w fun e w' => e = .returned (.bool true) ∧ Below w.heap.size w w' := by
  obtain ⟨h1, h2⟩ := (Lit.wf_int_iff .u8 x).1 wx
  have h1' : 0 ≤ x := h1
  have h2' : x ≤ 255 := h2
  have e : x = ((UInt8.ofNat x.toNat).toNat : Int) := by
    rw [UInt8.toNat_ofNat', Nat.mod_eq_of_lt (by omega)]; omega
  rw [e]
  exact once_walk a len cap _ w wa.1 wa.2
end Go.Proofs.Ytibkdoomnidndaa
