/- KeyEncodes. -/
import Derived.Test.YtbnnkpnhfjkdpaaKj
import Derived.Test.YtbnnkpnhfjkdpaaKm
import Derived.Test.YtbnnkpnhfjkdpaaAr
namespace Go.Proofs.Ytbnnkpnhfjkdpaa
open Go.RowKit
attribute [local irreducible] beZ valN

/-- two keys in blocks of their own -/
theorem two_facts (W0 W : World) (K R : Array Value) (h : Upd noBlock ((W0.alloc (.cells K 25)).alloc (.cells R 26)) W) :
    (∀ i, W.cell? ⟨W0.heap.size, i, none⟩ = K[i]?) ∧ (∀ i, W.cell? ⟨W0.heap.size + 1, i, none⟩ = R[i]?) ∧ W0.heap.size + 1 < W.heap.size ∧ ¬ W0.heap.size = W.heap.size ∧ ¬ W.heap.size = W0.heap.size :=
  ⟨fun i => cell_of (h.cells (block_alloc (heap_alloc_new W0 _) _) (fun h => h)) i, fun i => cell_of (h.cells (heap_alloc2_new W0 _ _) (fun h => h)) i, by
    have := h.size
    rw [World.size_alloc, World.size_alloc] at this
    exact ⟨by omega, by omega, by omega⟩⟩
set_option maxRecDepth 20000 in
set_option maxHeartbeats 3200000 in
theorem keyEncodes_upd (a b c : Int) (s : ByteArray) (w : World) (hs : s.size ≤ 140737488351232) :
    Calls Try.prog 3 #[.agg #[.int .i64 a, .int .i64 b, .int .i64 c], .string s] w fun e w' => e = .returned (.bool true) ∧ Upd noBlock w w' := by
  obtain ⟨l, rfl⟩ : ∃ l : List UInt8, s = ⟨l.toArray⟩ := ⟨s.data.toList, rfl⟩
  have hl : l.length ≤ 140737488351232 := hs
  have HS := Lib.hid speaks_any
  have HM := made_any a b c ⟨l.toArray⟩
  have HE := fun W => Encode_any a b l c W (by unfold maxLen; omega)
  have HR := fun W => refEncode_any a b l c W (by unfold maxLen; omega)
  have HG := fun W => refGood_any a b l c W (by unfold maxLen; omega)
  have HB : Hid (∀ W, Upd noBlock (w.alloc (.cells #[.int .i64 a, .int .i64 b, .int .i64 c] 22)) W → (∀ i, W.cell? ⟨w.heap.size, i, none⟩ = (#[.int .i64 a, .int .i64 b, .int .i64 c] : Array Value)[i]?)) := fun W hu i =>
    cell_of (hu.cells (heap_alloc_new w _) (fun h => h)) i
  by_cases hg : goodK a b l c = true
  · obtain ⟨d1, d2, d3, d4⟩ := dec_enc hg
    have hd5 := decOk_enc hg
    have hel := encK_length hg
    have HD := fun W => Decode_any (encK a b l c) W (by omega)
    have hv : decV (encK a b l c) = .agg #[.int .i64 a, .int .i64 b, .string ⟨l.toArray⟩, .int .i64 c] := by
      unfold decV
      rw [hd5, if_pos rfl, d1, d2, d3, d4]; rfl
    rw [hv, hd5] at HD
    rw [hg, if_pos rfl] at HE HR
    rw [hg] at HG
    obtain ⟨qe, hqe⟩ : ∃ q : ByteArray, ⟨(encK a b l c).toArray⟩ = q := ⟨_, rfl⟩
    obtain ⟨q, hq⟩ : ∃ q : ByteArray, ⟨l.toArray⟩ = q := ⟨_, rfl⟩
    rw [hqe] at HE HR HD
    rw [hq] at HE HR HD HG HM
    rw [hq]
    replace HE := Lib.hid HE
    replace HR := Lib.hid HR
    replace HD := Lib.hid HD
    replace HG := Lib.hid HG
    replace HM := Lib.hid HM
    have HF := Lib.hid (two_facts · · #[.int .i64 a, .int .i64 b, .string q, .int .i64 c] #[.int .i64 a, .int .i64 b, .string q, .int .i64 c])
    clear d1 d2 d3 d4 hd5 hel hv hqe hq hg hl hs
    go_enter Try.func3, Try.ntmps3
    go_wp2_with (first
      | (go_at_call 8; with_reducible refine (HS.out _).mono ?_; rintro e w1 ⟨rfl, h⟩; have c1 := HB.out _ h; have HA := Lib.hid (((Upd.refl _ _).alloc _).trans h); clear h)
      | (go_at_call 9; with_reducible refine (HM.out _).mono ?_; rintro e w2 ⟨rfl, h⟩; have HX := Lib.hid (HA.out.trans h); clear h HA)
      | (go_at_call 10; with_reducible refine (HE.out _).mono ?_; rintro e w3 ⟨rfl, h⟩; obtain ⟨f1, f2, _⟩ := HF.out _ _ h; have HY := Lib.hid h; clear h)
      | (go_at_call 11; with_reducible refine (HR.out _).mono ?_; rintro e w4 ⟨rfl, h⟩; obtain ⟨g1, g2, _⟩ := HF.out _ _ (HY.out.trans h); have HZ := Lib.hid (HY.out.trans h); clear h)
      | (go_at_call 12; with_reducible refine (HG.out _).mono ?_; rintro e w5 ⟨rfl, h⟩; obtain ⟨i1, i2, _⟩ := HF.out _ _ (HZ.out.trans h); have HV := Lib.hid (HZ.out.trans h); clear h)
      | (go_at_call 13; with_reducible refine (HD.out _).mono ?_; rintro e w6 ⟨rfl, h⟩; obtain ⟨j1, j2, _⟩ := HF.out _ _ ((HV.out.trans h).alloc (.cells #[.int .i64 a, .int .i64 b, .string q, .int .i64 c] 25)); have HU := Lib.hid (HV.out.trans h); clear h))
    go_ret
    exact ⟨rfl, HX.out.trans ((((Upd.refl _ _).alloc _).alloc _).trans (HU.out.alloc _))⟩
  · have hg' : goodK a b l c = false := by simpa using hg
    rw [hg', if_neg (by decide)] at HE HR
    rw [hg'] at HG
    obtain ⟨q, hq⟩ : ∃ q : ByteArray, ⟨l.toArray⟩ = q := ⟨_, rfl⟩
    rw [hq] at HE HR HG HM
    rw [hq]
    replace HE := Lib.hid HE
    replace HR := Lib.hid HR
    replace HG := Lib.hid HG
    replace HM := Lib.hid HM
    have HF := Lib.hid (two_facts · · #[.int .i64 a, .int .i64 b, .string q, .int .i64 c] #[.int .i64 a, .int .i64 b, .string q, .int .i64 c])
    clear hq hg hg' hl hs
    go_enter Try.func3, Try.ntmps3
    go_wp2_with (first
      | (go_at_call 8; with_reducible refine (HS.out _).mono ?_; rintro e w1 ⟨rfl, h⟩; have c1 := HB.out _ h; have HA := Lib.hid (((Upd.refl _ _).alloc _).trans h); clear h)
      | (go_at_call 9; with_reducible refine (HM.out _).mono ?_; rintro e w2 ⟨rfl, h⟩; have HX := Lib.hid (HA.out.trans h); clear h HA)
      | (go_at_call 10; with_reducible refine (HE.out _).mono ?_; rintro e w3 ⟨rfl, h⟩; obtain ⟨f1, f2, _⟩ := HF.out _ _ h; have HY := Lib.hid h; clear h)
      | (go_at_call 11; with_reducible refine (HR.out _).mono ?_; rintro e w4 ⟨rfl, h⟩; obtain ⟨g1, g2, _⟩ := HF.out _ _ (HY.out.trans h); have HZ := Lib.hid (HY.out.trans h); clear h)
      | (go_at_call 12; with_reducible refine (HG.out _).mono ?_; rintro e w5 ⟨rfl, h⟩; obtain ⟨i1, i2, _⟩ := HF.out _ _ (HZ.out.trans h); have HV := Lib.hid (HZ.out.trans h); clear h))
    go_ret
    exact ⟨rfl, HX.out.trans ((((Upd.refl _ _).alloc _).alloc _).trans HV.out)⟩
theorem keyEncodes_walk (a b c : Int) (s : ByteArray) (w : World) (_ : (Lit.int IntKind.i64 a).wf = true) (_ : (Lit.int IntKind.i64 b).wf = true) (_ : (Lit.int IntKind.i64 c).wf = true) (hs : s.size ≤ 140737488351232) :
    Calls Try.prog 3 #[.agg #[.int .i64 a, .int .i64 b, .int .i64 c], .string s] w fun e w' => e = .returned (.bool true) ∧ Below w.heap.size w w' :=
  (keyEncodes_upd a b c s w hs).mono fun _ _ ⟨h, hu⟩ => ⟨h, hu.below (fun _ _ h => h)⟩
end Go.Proofs.Ytbnnkpnhfjkdpaa
