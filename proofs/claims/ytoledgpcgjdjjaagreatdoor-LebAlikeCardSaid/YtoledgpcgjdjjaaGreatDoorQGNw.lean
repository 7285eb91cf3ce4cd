import Derived.Test.YtoledgpcgjdjjaaGreatDoorQNv
import Derived.Test.YtoledgpcgjdjjaaGreatDoorQGNn
/- Walks over package nand: Read, with noise. -/
namespace Go.Proofs.YtoledgpcgjdjjaaGreatDoor
open Go.RowKit

def noisy (most pc pl : Nat) (l : List UInt8) : List UInt8 := (List.range l.length).map fun j => UInt8.ofNat (noiseT most l.length pc pl (fun i => (l.getD i 0).toNat) j)
theorem noiseT_lt (most L pc pl : Nat) (f : Nat → Nat) (hf : ∀ i, f i < 256) : ∀ i, noiseT most L pc pl f i < 256 := foldT_lt (fun x j f h => pieceF_lt most L pc pl x j f h) f hf _
theorem noisy_len (most pc pl : Nat) (l : List UInt8) : (noisy most pc pl l).length = l.length := by unfold noisy; simp
theorem noisy_get (most pc pl : Nat) (l : List UInt8) (j : Nat) (h : j < (noisy most pc pl l).length) : (noisy most pc pl l)[j].toNat = noiseT most l.length pc pl (fun i => (l.getD i 0).toNat) j := by
  have h2 := noiseT_lt most l.length pc pl (fun i => (l.getD i 0).toNat) (fun i => (l.getD i 0).toNat_lt) j
  have hj : j < l.length := by rw [noisy_len] at h; exact h
  have e : (noisy most pc pl l)[j]? = some (UInt8.ofNat (noiseT most l.length pc pl (fun i => (l.getD i 0).toNat) j)) := by
    unfold noisy; rw [List.getElem?_map, List.getElem?_range hj]; rfl
  rw [(List.getElem?_eq_some_iff.1 e).2, UInt8.toNat_ofNat', Nat.mod_eq_of_lt (by omega)]

set_option maxRecDepth 100000 in
set_option maxHeartbeats 1600000 in
theorem read_noise (c bb : Nat) (pb : Nat → Nat) (M : Ch) (b p n seed most pc : Nat) (l : List UInt8) (w : World) (h : ChipIn w c bb pb M) (hF : M.Fit n) (hn : n < 2305843009213693952) (hb : b < M.nb) (hp : p < M.np) (ho : M.off = false)
    (hse : M.seed = (seed : Int)) (hse2 : seed < 18446744073709551616) (hmo : M.most = (most : Int)) (hm1 : 1 ≤ most) (hm2 : most ≤ 64) (hpc : M.piece = (pc : Int)) (hp1 : 1 ≤ pc) (hp2 : pc ≤ 9223372036854775807) (hL : l.length = M.sz) (hL1 : 1 ≤ M.sz)
    (hs : ∀ w1, PgsIn w1 (pb b) M.np M.sz (M.bk b) → Calls Tryz.prog 120 #[.pointer (some ⟨pb b, 3 * p, none⟩), .int .i64 (M.sz : Int)] w1 fun e w2 => ShowsW w1 w2 e l) :
    Calls Tryz.prog 98 #[.pointer (some ⟨c, 0, none⟩), .int .i64 (b : Int), .int .i64 (p : Int)] w fun e w' => e = .returned (.tuple #[.string ⟨(noisy most pc (placeN seed ((M.bk b).rd + 1) b p) l).toArray⟩, .int .i64 0]) ∧ ChipIn w' c bb pb (M.readM b) ∧ Upd (Own c bb pb M.nb) w w' := by
  have C0 := Lib.hid h.c0
  have B0 := Lib.hid (h.b0 hb)
  have c6 := h.c6 ho
  have b2 := h.b2 hb
  have f2 := h.bfree (4 * b + 2)
  have hnb := h.nb
  have hnp := h.np
  have hsz := h.sz
  have hrd : (M.bk b).rd < 2305843009213693952 := Nat.lt_of_le_of_lt (hF.rd b) hn
  have H1 := Lib.hid (h.readSet hb)
  have hs1 := Lib.hid (hs _ (by have := (h.readSet hb).1.pgs b hb; exact this.congr (fun r _ => by simp [Ch.readM, Ch.setBk])))
  obtain ⟨w1, hw1⟩ : ∃ w1, w1 = w.setCell ⟨bb, 4 * b + 2, none⟩ (.int .i64 (((M.bk b).rd : Int) + 1)) := ⟨_, rfl⟩
  rw [← hw1] at H1 hs1
  have c2 : w1.cell? ⟨c, 2, none⟩ = some (.int .i64 (M.sz : Int)) := H1.out.1.c2
  have HW1 := Lib.hid hw1
  have HLN := Lib.hid hL
  have HM := Lib.hid (show M.seed = (seed : Int) ∧ M.most = (most : Int) ∧ M.piece = (pc : Int) from ⟨hse, hmo, hpc⟩)
  have HP2 : Hid (pc ≤ 9223372036854775807) := Lib.hid hp2
  have HSE2 : Hid (seed < 18446744073709551616) := Lib.hid hse2
  obtain ⟨rd, hrd1⟩ : ∃ x, x = (M.bk b).rd + 1 := ⟨_, rfl⟩
  have HRD := Lib.hid hrd1
  have hrd2 : Hid (rd < 4611686018427387904) := Lib.hid (by omega)
  rw [← hrd1]
  rw [hw1] at c2
  rw [hw1] at hs1
  have HSS := hs1
  clear h ho hF hs hw1 hs1 hse hse2 hmo hpc hp2 hL hrd1
  go_enter Tryz.func98, Tryz.ntmps98
  go_wp2_with (first | (go_at_call 43; refine (page_in c bb M.nb b (pb b) M.np p _ hnb C0.out hb B0.out hnp hp).mono ?_; rintro e w' ⟨rfl, rfl⟩) | (go_at_call 72; refine (block_in c bb M.nb b _ hnb C0.out hb).mono ?_; rintro e w' ⟨rfl, rfl⟩) | (go_at_call 120; refine HSS.out.mono ?_; rintro e w2 ⟨v, rfl, hbs, hu2⟩; have HB2 := Lib.hid hbs; have U2 := Lib.hid hu2; clear hbs hu2))
  obtain ⟨g, cap, cur, z, hv, hgB, hg, hz, hlc, hcm, hcs, hcc⟩ := HB2.out
  subst hv
  have HROW : Hid (ByteRow w2 g l.length 5 (fun i => (l.getD i 0).toNat)) := Lib.hid ⟨cur, z, hg, by
    rcases hz with hz | hz
    · exact .inl hz
    · exact .inr (by omega), by omega, fun j hj => by
    rw [hcc j hj]
    show _ = some (Value.int .u8 (((l.getD j 0).toNat : Nat) : Int))
    rw [List.getD_eq_getElem?_getD, List.getElem?_eq_getElem hj]; rfl⟩
  have HGB := Lib.hid hgB
  have hlc2 : l.length ≤ cap := hlc
  clear hgB hg hz hlc hcm hcs hcc
  have H2 := Lib.hid (H1.out.1.grow (by rw [HW1.out]; exact U2.out))
  have d3 : w2.cell? ⟨c, 3, none⟩ = some (.int .u64 (seed : Int)) := by rw [← HM.out.1]; exact H2.out.cell 3
  have d4 : w2.cell? ⟨c, 4, none⟩ = some (.int .i64 (most : Int)) := by rw [← HM.out.2.1]; exact H2.out.cell 4
  have d5 : w2.cell? ⟨c, 5, none⟩ = some (.int .i64 (pc : Int)) := by rw [← HM.out.2.2]; exact H2.out.cell 5
  have e2 : w2.cell? ⟨bb, 4 * b + 2, none⟩ = some (.int .i64 (rd : Int)) := by
    have := H2.out.b2 hb
    rw [this, HRD.out]
    simp [Ch.readM, Ch.setBk]
  go_still_tail 11, (by kernel_rfl)
  change wpList _ _ _ _ _ w2.drew
  have Ud : Upd noBlock w2 w2.drew := (Upd.refl noBlock w2).drew
  generalize w2.drew = w2d at *
  have HU := Lib.hid Ud
  clear Ud
  have HD := Lib.hid (disturb_any seed rd b p most pc g l.length cap l.length (fun i => (l.getD i 0).toNat) w2d hm1 hm2 (by rw [HLN.out]; exact hL1) (by rw [HLN.out]; exact hsz) hlc2 (Nat.le_refl _) (by rw [HLN.out]; omega) hp1 HP2 HSE2 hrd2 (by omega) (by omega) (HROW.out.grow HU.out) (fun i => (l.getD i 0).toNat_lt))
  go_wp2_with (go_at_call 121; ((with_reducible refine HD.out.mono ?_); rintro e w3 ⟨rfl, hrow3, hu3⟩; have hcv := hrow3.text (noisy most pc (placeN seed rd b p) l) (noisy_len _ _ _ _) (fun j hj => noisy_get _ _ _ _ j hj) cap 105 9 Tryz.underlying105 Tryz.underlying5 Tryz.underlying9; have U3 := Lib.hid hu3; clear hu3 hrow3))
  go_ret2
  have U13 : Upd noBlock (w.setCell ⟨bb, 4 * b + 2, none⟩ (.int .i64 (((M.bk b).rd : Int) + 1))) w3 := (U2.out.trans HU.out).step U3.out (fun i hi e => by
    have e : i = g := e
    have := HGB.out
    omega)
  refine ⟨rfl, H1.out.1.grow (by rw [HW1.out]; exact U13), (upd_own_bb (by have := H1.out.2; rw [HW1.out] at this; exact this)).trans (upd_own_0 U13)⟩
end Go.Proofs.YtoledgpcgjdjjaaGreatDoor

/- Noise: no more bits of a piece turn than are allowed. -/
namespace Go.Proofs.YtoledgpcgjdjjaaGreatDoor
open Go.RowKit

def pop (x : Nat) : Nat := x % 2 + x / 2 % 2 + x / 4 % 2 + x / 8 % 2 + x / 16 % 2 + x / 32 % 2 + x / 64 % 2 + x / 128 % 2
theorem pop_flip0 : ∀ z, z < 256 → ∀ s, s < 8 → pop (z ^^^ 2 ^ s) ≤ pop z + 1 := by decide +kernel
def unlike (f g : Nat → Nat) (a : Nat) : Nat → Nat
  | 0 => 0
  | n + 1 => unlike f g a n + pop (f (a + n) ^^^ g (a + n))
theorem unlike_self (f : Nat → Nat) (a : Nat) : ∀ n, unlike f f a n = 0
  | 0 => rfl
  | n + 1 => by rw [unlike, unlike_self f a n, Nat.xor_self]; rfl
theorem unlike_turn {f g : Nat → Nat} (hf : ∀ i, f i < 256) (hg : ∀ i, g i < 256) (o b a : Nat) : ∀ n, unlike (turnBit f o b) g a n ≤ unlike f g a n + 1 ∧ (¬ (a ≤ o + b / 8 ∧ o + b / 8 < a + n) → unlike (turnBit f o b) g a n = unlike f g a n)
  | 0 => ⟨Nat.zero_le _, fun _ => rfl⟩
  | n + 1 => by
    obtain ⟨h1, h2⟩ := unlike_turn hf hg o b a n
    rw [unlike, unlike]
    by_cases e : a + n = o + b / 8
    · have h3 := h2 (by omega)
      rw [h3]
      have h4 : turnBit f o b (a + n) = f (a + n) ^^^ 2 ^ (b % 8) := by unfold turnBit; rw [if_pos e]
      rw [h4, Nat.xor_assoc, Nat.xor_comm (2 ^ (b % 8)), ← Nat.xor_assoc]
      have h5 := pop_flip0 (f (a + n) ^^^ g (a + n)) (Nat.xor_lt_two_pow (n := 8) (hf _) (hg _)) (b % 8) (by omega)
      exact ⟨by omega, fun h => absurd ⟨by omega, by omega⟩ h⟩
    · have h4 : turnBit f o b (a + n) = f (a + n) := by unfold turnBit; rw [if_neg e]
      rw [h4]
      exact ⟨by omega, fun h => by rw [h2 (by omega)]⟩
theorem unlike_turns (o len h : Nat) (hl : 1 ≤ len) {g : Nat → Nat} (hg : ∀ i, g i < 256) (a n : Nat) (f : Nat → Nat) (hf : ∀ i, f i < 256) : ∀ k, unlike (turnsN o len k h f) g a n ≤ unlike f g a n + k ∧ (a + n ≤ o ∨ o + len ≤ a → unlike (turnsN o len k h f) g a n = unlike f g a n)
  | 0 => ⟨Nat.le_refl _, fun _ => rfl⟩
  | k + 1 => by
    obtain ⟨h1, h2⟩ := unlike_turns o len h hl hg a n f hf k
    rw [turns_succ]
    obtain ⟨h3, h4⟩ := unlike_turn (turns_lt o len k h f hf) hg o (drawnN (stepsH (k + 1) h) (8 * len)) a n
    have h5 : drawnN (stepsH (k + 1) h) (8 * len) < 8 * len := by rw [drawnN]; exact Nat.mod_lt _ (by omega)
    exact ⟨by omega, fun hd => by rw [h4 (by omega), h2 hd]⟩
theorem unlike_fold (most L pc pl : Nat) (hm : 1 ≤ most) (hp : 1 ≤ pc) (f : Nat → Nat) (hf : ∀ i, f i < 256) (q : Nat) : ∀ j, j ≤ pieces L pc → unlike (foldT (pieceF most L pc pl) f (List.range j)).1 f (q * pc) (min pc (L - q * pc)) ≤ if q < j then most else 0
  | 0, _ => by rw [if_neg (Nat.not_lt_zero q)]; exact Nat.le_of_eq (unlike_self f _ _)
  | j + 1, hj => by
    have ih := unlike_fold most L pc pl hm hp f hf q j (by omega)
    rw [range_succ', foldT_snoc]
    have hjL : j * pc < L := (pieces_lt hp).1 (by omega)
    have hpi : pidx L pc j = j := by unfold pidx; rw [if_pos hjL]
    have hlt := foldT_lt (fun x j f h => pieceF_lt most L pc pl x j f h) f hf (List.range j)
    have ht : drawnN (hashN pl (foldT (pieceF most L pc pl) f (List.range j)).2) most < most := by rw [drawnN]; exact Nat.mod_lt _ (by omega)
    show unlike (pieceF most L pc pl j _ _) f _ _ ≤ _
    rw [pieceF, hpi, pieceT]
    obtain ⟨h1, h2⟩ := unlike_turns (j * pc) (min pc (L - j * pc)) (hashN pl (foldT (pieceF most L pc pl) f (List.range j)).2) (by omega) hf (q * pc) (min pc (L - q * pc)) _ hlt (drawnN (hashN pl (foldT (pieceF most L pc pl) f (List.range j)).2) most + 1)
    by_cases e : q = j
    · subst e
      rw [if_neg (Nat.lt_irrefl q)] at ih
      rw [if_pos (by omega)]
      omega
    · have hd : q * pc + min pc (L - q * pc) ≤ j * pc ∨ j * pc + min pc (L - j * pc) ≤ q * pc := by
        by_cases e2 : q < j
        · left
          have : (q + 1) * pc ≤ j * pc := Nat.mul_le_mul_right pc (by omega)
          rw [Nat.succ_mul] at this
          omega
        · right
          have : (j + 1) * pc ≤ q * pc := Nat.mul_le_mul_right pc (by omega)
          rw [Nat.succ_mul] at this
          omega
      rw [h2 hd]
      by_cases e3 : q < j
      · rw [if_pos e3] at ih; rw [if_pos (by omega)]; exact ih
      · rw [if_neg e3] at ih; rw [if_neg (by omega)]; exact ih
end Go.Proofs.YtoledgpcgjdjjaaGreatDoor
