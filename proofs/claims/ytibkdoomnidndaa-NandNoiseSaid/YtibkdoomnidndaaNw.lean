/- Walks over package nand: Read, with noise. -/
import Derived.Test.YtibkdoomnidndaaNv
import Derived.Test.YtibkdoomnidndaaNo
namespace Go.Proofs.Ytibkdoomnidndaa
open Go.RowKit

/-- what noise makes of what a page shows -/
def noisy (most pc pl : Nat) (l : List UInt8) : List UInt8 := (List.range l.length).map fun j => UInt8.ofNat (noiseT most l.length pc pl (fun i => (l.getD i 0).toNat) j)
theorem noiseT_lt (most L pc pl : Nat) (f : Nat → Nat) (hf : ∀ i, f i < 256) : ∀ i, noiseT most L pc pl f i < 256 := foldT_lt (fun x j f h => pieceF_lt most L pc pl x j f h) f hf _
theorem noisy_len (most pc pl : Nat) (l : List UInt8) : (noisy most pc pl l).length = l.length := by unfold noisy; simp
theorem noisy_get (most pc pl : Nat) (l : List UInt8) (j : Nat) (h : j < (noisy most pc pl l).length) : (noisy most pc pl l)[j].toNat = noiseT most l.length pc pl (fun i => (l.getD i 0).toNat) j := by
  have h2 := noiseT_lt most l.length pc pl (fun i => (l.getD i 0).toNat) (fun i => (l.getD i 0).toNat_lt) j
  have hj : j < l.length := by rw [noisy_len] at h; exact h
  have e : (noisy most pc pl l)[j]? = some (UInt8.ofNat (noiseT most l.length pc pl (fun i => (l.getD i 0).toNat) j)) := by
    unfold noisy; rw [List.getElem?_map, List.getElem?_range hj]; rfl
  rw [(List.getElem?_eq_some_iff.1 e).2, UInt8.toNat_ofNat', Nat.mod_eq_of_lt (by omega)]

set_option maxRecDepth 100000 in
set_option maxHeartbeats 1600000 in
theorem read_noise (c bb : Nat) (pb : Nat → Nat) (M : Ch) (b p n seed most pc : Nat) (l : List UInt8) (w : World) (h : ChipIn w c bb pb M) (hF : M.Fit n) (hn : n < 2305843009213693952) (hb : b < M.nb) (hp : p < M.np) (ho : M.off = false)
    (hse : M.seed = (seed : Int)) (hse2 : seed < 18446744073709551616) (hmo : M.most = (most : Int)) (hm1 : 1 ≤ most) (hm2 : most ≤ 64) (hpc : M.piece = (pc : Int)) (hp1 : 1 ≤ pc) (hp2 : pc ≤ 9223372036854775807) (hL : l.length = M.sz) (hL1 : 1 ≤ M.sz)
    (hs : ∀ w1, PgsIn w1 (pb b) M.np M.sz (M.bk b) → Calls Try.prog 43 #[.pointer (some ⟨pb b, 3 * p, none⟩), .int .i64 (M.sz : Int)] w1 fun e w2 => ShowsW w1 w2 e l) :
    Calls Try.prog 17 #[.pointer (some ⟨c, 0, none⟩), .int .i64 (b : Int), .int .i64 (p : Int)] w fun e w' => e = .returned (.tuple #[.string ⟨(noisy most pc (placeN seed ((M.bk b).rd + 1) b p) l).toArray⟩, .int .i64 0]) ∧ ChipIn w' c bb pb (M.readM b) ∧ Upd (Own c bb pb M.nb) w w' := by
  have C0 := Lib.hid h.c0
  have B0 := Lib.hid (h.b0 hb)
  have c6 := h.c6 ho
  have b2 := h.b2 hb
  have f2 := h.bfree (4 * b + 2)
  have hnb := h.nb
  have hnp := h.np
  have hsz := h.sz
  have hrd : (M.bk b).rd < 2305843009213693952 := Nat.lt_of_le_of_lt (hF.rd b) hn
  have H1 := Lib.hid (h.readSet hb)
  have hs1 := Lib.hid (hs _ (by have := (h.readSet hb).1.pgs b hb; exact this.congr (fun r _ => by simp [Ch.readM, Ch.setBk])))
  obtain ⟨w1, hw1⟩ : ∃ w1, w1 = w.setCell ⟨bb, 4 * b + 2, none⟩ (.int .i64 (((M.bk b).rd : Int) + 1)) := ⟨_, rfl⟩
  rw [← hw1] at H1 hs1
  have c2 : w1.cell? ⟨c, 2, none⟩ = some (.int .i64 (M.sz : Int)) := H1.out.1.c2
  have HW1 := Lib.hid hw1
  have HLN := Lib.hid hL
  have HM := Lib.hid (show M.seed = (seed : Int) ∧ M.most = (most : Int) ∧ M.piece = (pc : Int) from ⟨hse, hmo, hpc⟩)
  have HP2 : Hid (pc ≤ 9223372036854775807) := Lib.hid hp2
  have HSE2 : Hid (seed < 18446744073709551616) := Lib.hid hse2
  obtain ⟨rd, hrd1⟩ : ∃ x, x = (M.bk b).rd + 1 := ⟨_, rfl⟩
  have HRD := Lib.hid hrd1
  have hrd2 : Hid (rd < 4611686018427387904) := Lib.hid (by omega)
  rw [← hrd1]
  rw [hw1] at c2
  rw [hw1] at hs1
  have HSS := hs1
  clear h ho hF hs hw1 hs1 hse hse2 hmo hpc hp2 hL hrd1
  go_enter Try.func17, Try.ntmps17
  go_wp2_with (first | (go_at_call 38; refine (page_in c bb M.nb b (pb b) M.np p _ hnb C0.out hb B0.out hnp hp).mono ?_; rintro e w' ⟨rfl, rfl⟩) | (go_at_call 31; refine (block_in c bb M.nb b _ hnb C0.out hb).mono ?_; rintro e w' ⟨rfl, rfl⟩) | (go_at_call 43; refine HSS.out.mono ?_; rintro e w2 ⟨v, rfl, hbs, hu2⟩; have HB2 := Lib.hid hbs; have U2 := Lib.hid hu2; clear hbs hu2))
  obtain ⟨g, cap, cur, z, hv, hgB, hg, hz, hlc, hcm, hcs, hcc⟩ := HB2.out
  subst hv
  have HROW : Hid (ByteRow w2 g l.length 5 (fun i => (l.getD i 0).toNat)) := Lib.hid ⟨cur, z, hg, by
    rcases hz with hz | hz
    · exact .inl hz
    · exact .inr (by omega), by omega, fun j hj => by
    rw [hcc j hj]
    show _ = some (Value.int .u8 (((l.getD j 0).toNat : Nat) : Int))
    rw [List.getD_eq_getElem?_getD, List.getElem?_eq_getElem hj]; rfl⟩
  have HGB := Lib.hid hgB
  have hlc2 : l.length ≤ cap := hlc
  clear hgB hg hz hlc hcm hcs hcc
  have H2 := Lib.hid (H1.out.1.grow (by rw [HW1.out]; exact U2.out))
  have d3 : w2.cell? ⟨c, 3, none⟩ = some (.int .u64 (seed : Int)) := by rw [← HM.out.1]; exact H2.out.cell 3
  have d4 : w2.cell? ⟨c, 4, none⟩ = some (.int .i64 (most : Int)) := by rw [← HM.out.2.1]; exact H2.out.cell 4
  have d5 : w2.cell? ⟨c, 5, none⟩ = some (.int .i64 (pc : Int)) := by rw [← HM.out.2.2]; exact H2.out.cell 5
  have e2 : w2.cell? ⟨bb, 4 * b + 2, none⟩ = some (.int .i64 (rd : Int)) := by
    have := H2.out.b2 hb
    rw [this, HRD.out]
    simp [Ch.readM, Ch.setBk]
  go_still_tail 11, (by kernel_rfl)
  change wpList _ _ _ _ _ w2.drew
  have Ud : Upd noBlock w2 w2.drew := (Upd.refl noBlock w2).drew
  generalize w2.drew = w2d at *
  have HU := Lib.hid Ud
  clear Ud
  have HD := Lib.hid (disturb_any seed rd b p most pc g l.length cap l.length (fun i => (l.getD i 0).toNat) w2d hm1 hm2 (by rw [HLN.out]; exact hL1) (by rw [HLN.out]; exact hsz) hlc2 (Nat.le_refl _) (by rw [HLN.out]; omega) hp1 HP2 HSE2 hrd2 (by omega) (by omega) (HROW.out.grow HU.out) (fun i => (l.getD i 0).toNat_lt))
  go_wp2_with (go_at_call 44; ((with_reducible refine HD.out.mono ?_); rintro e w3 ⟨rfl, hrow3, hu3⟩; have hcv := hrow3.text (noisy most pc (placeN seed rd b p) l) (noisy_len _ _ _ _) (fun j hj => noisy_get _ _ _ _ j hj) cap 35 9 Try.underlying35 Try.underlying5 Try.underlying9; have U3 := Lib.hid hu3; clear hu3 hrow3))
  go_ret2
  have U13 : Upd noBlock (w.setCell ⟨bb, 4 * b + 2, none⟩ (.int .i64 (((M.bk b).rd : Int) + 1))) w3 := (U2.out.trans HU.out).step U3.out (fun i hi e => by
    have e : i = g := e
    have := HGB.out
    omega)
  refine ⟨rfl, H1.out.1.grow (by rw [HW1.out]; exact U13), (upd_own_bb (by have := H1.out.2; rw [HW1.out] at this; exact this)).trans (upd_own_0 U13)⟩
end Go.Proofs.Ytibkdoomnidndaa
