/- Walks over package nand: Erase, Spoil, Wear, and what touches the chip's head alone. -/
import Derived.Test.YtibkdoomnidndaaNe
namespace Go.Proofs.Ytibkdoomnidndaa
open Go.RowKit

def Ch.eraseE (M : Ch) (b : Nat) : Int := if M.off then 20 else if (M.bk b).worn then 22 else if M.torn then 20 else 0
def Bk.counted (B : Bk) : Bk := { B with er := B.er + 1, rd := 0 }
def Ch.eraseM (M : Ch) (b : Nat) : Ch :=
  if M.off then M else if (M.bk b).worn then M else
    if M.torn then M.changed.setBk b ((M.bk b).counted.allPg (tornErase M.mode)) else M.changed.setBk b ((M.bk b).counted.allPg fun _ => pg0)

theorem ChipIn.count {w : World} {c bb : Nat} {pb : Nat → Nat} {M : Ch} (h : ChipIn w c bb pb M) {b : Nat} (_ : b < M.nb) :
    ChipIn ((w.setCell ⟨bb, 4 * b + 1, none⟩ (.int .i64 (((M.bk b).er : Int) + 1))).setCell ⟨bb, 4 * b + 2, none⟩ (.int .i64 0)) c bb pb (M.setBk b (M.bk b).counted) ∧
      Upd (oneBlock bb) w ((w.setCell ⟨bb, 4 * b + 1, none⟩ (.int .i64 (((M.bk b).er : Int) + 1))).setCell ⟨bb, 4 * b + 2, none⟩ (.int .i64 0)) := by
  have h1 := h.setBlk (4 * b + 1) (.int .i64 (((M.bk b).er : Int) + 1)) (M.setBk b { M.bk b with er := (M.bk b).er + 1 }) (fun j hj => by
    unfold bkCell Ch.setBk
    by_cases e : j = 4 * b + 1
    · subst e
      simp only [if_true, if_neg (show ¬ (4 * b + 1) % 4 = 0 by omega), if_pos (show (4 * b + 1) % 4 = 1 by omega), show (4 * b + 1) / 4 = b by omega]; rfl
    · by_cases e2 : j / 4 = b
      · rw [if_neg e]
        simp only [e2, if_true]
        rw [if_neg (show ¬ j % 4 = 1 by omega), if_neg (show ¬ j % 4 = 1 by omega)]
      · simp only [if_neg e, if_neg e2]) rfl rfl rfl rfl (fun b' p _ _ => by
    unfold Ch.setBk
    by_cases e : b' = b
    · subst e; simp
    · simp [e])
  have h2 := h1.setBlk (4 * b + 2) (.int .i64 0) (M.setBk b (M.bk b).counted) (fun j hj => by
    unfold bkCell Ch.setBk Bk.counted
    by_cases e : j = 4 * b + 2
    · subst e
      simp only [if_true, if_neg (show ¬ (4 * b + 2) % 4 = 0 by omega), if_neg (show ¬ (4 * b + 2) % 4 = 1 by omega), if_pos (show (4 * b + 2) % 4 = 2 by omega), show (4 * b + 2) / 4 = b by omega]; rfl
    · by_cases e2 : j / 4 = b
      · rw [if_neg e]
        simp only [e2, if_true]
        rw [if_neg (show ¬ j % 4 = 2 by omega), if_neg (show ¬ j % 4 = 2 by omega)]
      · simp only [if_neg e, if_neg e2]) rfl rfl rfl rfl (fun b' p _ _ => by
    unfold Ch.setBk Bk.counted
    by_cases e : b' = b
    · subst e; simp
    · simp [e])
  exact ⟨h2, ((Upd.refl (oneBlock bb) w).setCell (p := ⟨bb, 4 * b + 1, none⟩) (.inl rfl) _).setCell (p := ⟨bb, 4 * b + 2, none⟩) (.inl rfl) _⟩

set_option maxRecDepth 100000 in
theorem erase_out (c bb : Nat) (pb : Nat → Nat) (M : Ch) (b : Int) (w : World) (h : ChipIn w c bb pb M) (hr : b < 0 ∨ (M.nb : Int) ≤ b) :
    Calls Try.prog 13 #[.pointer (some ⟨c, 0, none⟩), .int .i64 b] w fun e w' => e = .returned (.int .i64 1) ∧ w = w' := by
  have C0 := Lib.hid h.c0
  have hnb := h.nb
  have HR := Lib.hid hr
  clear h hr
  go_enter Try.func13, Try.ntmps13
  go_wp2_with (go_at_call 31; refine (block_out c bb M.nb b _ hnb C0.out HR.out).mono ?_; rintro e w' ⟨rfl, rfl⟩)
  go_ret
  exact ⟨rfl, rfl⟩
set_option maxRecDepth 100000 in
theorem erase_off (c bb : Nat) (pb : Nat → Nat) (M : Ch) (b : Nat) (w : World) (h : ChipIn w c bb pb M) (hb : b < M.nb) (ho : M.off = true) :
    Calls Try.prog 13 #[.pointer (some ⟨c, 0, none⟩), .int .i64 (b : Int)] w fun e w' => e = .returned (.int .i64 20) ∧ w = w' := by
  have C0 := Lib.hid h.c0
  have C6 := Lib.hid (h.c6 ho)
  have B3 := Lib.hid (h.b3 hb rfl)
  have hnb := h.nb
  clear h ho
  go_enter Try.func13, Try.ntmps13
  go_wp2_with (first | (go_at_call 31; refine (block_in c bb M.nb b _ hnb C0.out hb).mono ?_; rintro e w' ⟨rfl, rfl⟩) | (go_at_call 32; refine (refusal_off c bb b _ _ C6.out B3.out).mono ?_; rintro e w' ⟨rfl, rfl⟩))
  go_ret
  exact ⟨rfl, rfl⟩
set_option maxRecDepth 100000 in
theorem erase_worn (c bb : Nat) (pb : Nat → Nat) (M : Ch) (b : Nat) (w : World) (h : ChipIn w c bb pb M) (hb : b < M.nb) (ho : M.off = false) (hw : (M.bk b).worn = true) :
    Calls Try.prog 13 #[.pointer (some ⟨c, 0, none⟩), .int .i64 (b : Int)] w fun e w' => e = .returned (.int .i64 22) ∧ w = w' := by
  have C0 := Lib.hid h.c0
  have C6 := Lib.hid (h.c6 ho)
  have B3 := Lib.hid (h.b3 hb hw)
  have hnb := h.nb
  clear h ho hw
  go_enter Try.func13, Try.ntmps13
  go_wp2_with (first | (go_at_call 31; refine (block_in c bb M.nb b _ hnb C0.out hb).mono ?_; rintro e w' ⟨rfl, rfl⟩) | (go_at_call 32; refine (refusal_worn c bb b _ C6.out B3.out).mono ?_; rintro e w' ⟨rfl, rfl⟩))
  go_ret
  exact ⟨rfl, rfl⟩
set_option maxRecDepth 100000 in
set_option maxHeartbeats 1600000 in
theorem erase_ok (c bb : Nat) (pb : Nat → Nat) (M : Ch) (b n : Nat) (w : World) (h : ChipIn w c bb pb M) (hF : M.Fit n) (hn : n < 4611686018427387904) (hb : b < M.nb) (hnp0 : 0 < M.np) (ho : M.off = false) (hw : (M.bk b).worn = false) (ht : M.torn = false) :
    Calls Try.prog 13 #[.pointer (some ⟨c, 0, none⟩), .int .i64 (b : Int)] w fun e w' => e = .returned (.int .i64 0) ∧ ChipIn w' c bb pb (M.changed.setBk b ((M.bk b).counted.allPg fun _ => pg0)) ∧ Upd (Own c bb pb M.nb) w w' := by
  have C0 := Lib.hid h.c0
  have C6 := Lib.hid (h.c6 ho)
  have B3 := Lib.hid (h.b3 hb hw)
  have hnb := h.nb
  have hnp := h.np
  have H := Lib.hid h
  have HO := Lib.hid ho
  have HT := Lib.hid ht
  have hch : M.changes < 4611686018427387904 := Nat.lt_of_le_of_lt hF.changes hn
  have her : (M.bk b).er < 4611686018427387904 := Nat.lt_of_le_of_lt (hF.er b) hn
  have hle := hF.left
  clear h ho hw ht hF
  go_enter Try.func13, Try.ntmps13
  go_wp2_with (first | (go_at_call 31; refine (block_in c bb M.nb b _ hnb C0.out hb).mono ?_; rintro e w' ⟨rfl, rfl⟩) | (go_at_call 32; refine (refusal_ok c bb b _ C6.out B3.out).mono ?_; rintro e w' ⟨rfl, rfl⟩) | (go_at_call 33; refine (change_way c bb pb M _ false HT.out H.out HO.out hch hle).mono ?_; rintro e w2 ⟨rfl, hw2, hu2⟩; have H2 := Lib.hid (hw2.count hb); have U2 := Lib.hid hu2; have d1 : w2.cell? ⟨bb, 4 * b + 1, none⟩ = some (.int .i64 ((M.bk b).er : Int)) := hw2.b1 hb; have d2 : w2.cell? ⟨bb, 4 * b + 2, none⟩ = some (.int .i64 ((M.bk b).rd : Int)) := hw2.b2 hb; have f1 := hw2.bfree (4 * b + 1); have f2 := hw2.bfree (4 * b + 2); clear hw2 hu2) | (go_at_call 35; refine (erase_any bb b (pb b) M.np M.sz _ _ (H2.out.1.b0 hb) (H2.out.1.pgs b hb) hnp0).mono ?_; rintro e w3 ⟨rfl, hw3, hu3⟩; have H3 := Lib.hid hw3; have U3 := Lib.hid hu3; clear hw3 hu3))
  go_ret
  refine ⟨rfl, ?_, ((upd_own_c U2.out).trans (upd_own_bb H2.out.2)).trans (upd_own hb U3.out)⟩
  have := H2.out.1.setPgs hb _ U3.out H3.out
  refine (congrArg (ChipIn _ c bb pb) ?_).mp this
  simp only [Ch.setBk, Ch.changed, if_true, Bk.allPg]
  congr 1
  funext k
  by_cases e : k = b
  · simp [e]
  · simp [e]
set_option maxRecDepth 100000 in
set_option maxHeartbeats 1600000 in
theorem erase_torn (c bb : Nat) (pb : Nat → Nat) (M : Ch) (b n : Nat) (w : World) (h : ChipIn w c bb pb M) (hF : M.Fit n) (hn : n < 4611686018427387904) (hb : b < M.nb) (hnp0 : 0 < M.np) (ho : M.off = false) (hw : (M.bk b).worn = false) (ht : M.torn = true) :
    Calls Try.prog 13 #[.pointer (some ⟨c, 0, none⟩), .int .i64 (b : Int)] w fun e w' => e = .returned (.int .i64 20) ∧ ChipIn w' c bb pb (M.changed.setBk b ((M.bk b).counted.allPg (tornErase M.mode))) ∧ Upd (Own c bb pb M.nb) w w' := by
  have C0 := Lib.hid h.c0
  have C6 := Lib.hid (h.c6 ho)
  have B3 := Lib.hid (h.b3 hb hw)
  have hnb := h.nb
  have hnp := h.np
  have H := Lib.hid h
  have HO := Lib.hid ho
  have HT := Lib.hid ht
  have hch : M.changes < 4611686018427387904 := Nat.lt_of_le_of_lt hF.changes hn
  have her : (M.bk b).er < 4611686018427387904 := Nat.lt_of_le_of_lt (hF.er b) hn
  have hle := hF.left
  have hmo := hF.mode
  have hcbb : ¬ c = bb := h.c_bb
  clear h ho hw ht hF
  go_enter Try.func13, Try.ntmps13
  go_wp2_with (first | (go_at_call 31; refine (block_in c bb M.nb b _ hnb C0.out hb).mono ?_; rintro e w' ⟨rfl, rfl⟩) | (go_at_call 32; refine (refusal_ok c bb b _ C6.out B3.out).mono ?_; rintro e w' ⟨rfl, rfl⟩) | (go_at_call 33; refine (change_way c bb pb M _ true HT.out H.out HO.out hch hle).mono ?_; rintro e w2 ⟨rfl, hw2, hu2⟩; have H2 := Lib.hid (hw2.count hb); have U2 := Lib.hid hu2; have d1 : w2.cell? ⟨bb, 4 * b + 1, none⟩ = some (.int .i64 ((M.bk b).er : Int)) := hw2.b1 hb; have d2 : w2.cell? ⟨bb, 4 * b + 2, none⟩ = some (.int .i64 ((M.bk b).rd : Int)) := hw2.b2 hb; have f1 := hw2.bfree (4 * b + 1); have f2 := hw2.bfree (4 * b + 2); have d8 : w2.cell? ⟨c, 8, none⟩ = some (.int .i64 (M.mode : Int)) := hw2.c8; clear hw2 hu2) | (go_at_call 34; refine (tearErase_any bb b (pb b) M.np M.sz M.mode _ _ (H2.out.1.b0 hb) (H2.out.1.bb_pb hb) (H2.out.1.pgs b hb) hnp0 hnp hmo).mono ?_; rintro e w3 ⟨rfl, hw3, hu3⟩; have H3 := Lib.hid hw3; have U3 := Lib.hid hu3; clear hw3 hu3))
  go_ret
  refine ⟨rfl, ?_, ((upd_own_c U2.out).trans (upd_own_bb H2.out.2)).trans (upd_own hb U3.out)⟩
  have := H2.out.1.setPgs hb _ U3.out H3.out
  refine (congrArg (ChipIn _ c bb pb) ?_).mp this
  simp only [Ch.setBk, Ch.changed, if_true, Bk.allPg]
  congr 1
  funext k
  by_cases e : k = b
  · simp [e]
  · simp [e]
theorem erase_in (c bb : Nat) (pb : Nat → Nat) (M : Ch) (b n : Nat) (w : World) (h : ChipIn w c bb pb M) (hF : M.Fit n) (hn : n < 4611686018427387904) (hb : b < M.nb) (hnp0 : 0 < M.np) :
    Calls Try.prog 13 #[.pointer (some ⟨c, 0, none⟩), .int .i64 (b : Int)] w fun e w' => e = .returned (.int .i64 (M.eraseE b)) ∧ ChipIn w' c bb pb (M.eraseM b) ∧ Upd (Own c bb pb M.nb) w w' := by
  unfold Ch.eraseE Ch.eraseM
  cases ho : M.off
  · cases hw : (M.bk b).worn
    · cases ht : M.torn
      · exact erase_ok c bb pb M b n w h hF hn hb hnp0 ho hw ht
      · exact erase_torn c bb pb M b n w h hF hn hb hnp0 ho hw ht
    · refine (erase_worn c bb pb M b w h hb ho hw).mono ?_
      rintro e w' ⟨he, rfl⟩
      exact ⟨he, h, Upd.refl _ _⟩
  · refine (erase_off c bb pb M b w h hb ho).mono ?_
    rintro e w' ⟨he, rfl⟩
    exact ⟨he, h, Upd.refl _ _⟩

/-! Spoil, Wear -/
def Ch.spoilM (M : Ch) (b p : Nat) : Ch := M.setBk b ((M.bk b).setPg p ((M.bk b).pg p).spoilW)
def Ch.wearM (M : Ch) (b : Nat) : Ch := M.setBk b { M.bk b with worn := true }
set_option maxRecDepth 100000 in
theorem spoilC_out (c bb : Nat) (pb : Nat → Nat) (M : Ch) (b p : Int) (w : World) (h : ChipIn w c bb pb M) (hr : b < 0 ∨ (M.nb : Int) ≤ b) :
    Calls Try.prog 19 #[.pointer (some ⟨c, 0, none⟩), .int .i64 b, .int .i64 p] w fun e w' => e = .returned (.int .i64 1) ∧ w = w' := by
  have C0 := Lib.hid h.c0
  have hnb := h.nb
  have HR := Lib.hid hr
  clear h hr
  go_enter Try.func19, Try.ntmps19
  go_wp2_with (go_at_call 38; refine (page_out_b c bb M.nb b p _ hnb C0.out HR.out).mono ?_; rintro e w' ⟨rfl, rfl⟩)
  go_ret
  exact ⟨rfl, rfl⟩
set_option maxRecDepth 100000 in
theorem spoilC_out_p (c bb : Nat) (pb : Nat → Nat) (M : Ch) (b : Nat) (p : Int) (w : World) (h : ChipIn w c bb pb M) (hb : b < M.nb) (hr : p < 0 ∨ (M.np : Int) ≤ p) :
    Calls Try.prog 19 #[.pointer (some ⟨c, 0, none⟩), .int .i64 (b : Int), .int .i64 p] w fun e w' => e = .returned (.int .i64 1) ∧ w = w' := by
  have C0 := Lib.hid h.c0
  have B0 := Lib.hid (h.b0 hb)
  have hnb := h.nb
  have hnp := h.np
  have HR := Lib.hid hr
  clear h hr
  go_enter Try.func19, Try.ntmps19
  go_wp2_with (go_at_call 38; refine (page_out_p c bb M.nb b (pb b) M.np p _ hnb C0.out hb B0.out hnp HR.out).mono ?_; rintro e w' ⟨rfl, rfl⟩)
  go_ret
  exact ⟨rfl, rfl⟩
set_option maxRecDepth 100000 in
theorem spoilC_in (c bb : Nat) (pb : Nat → Nat) (M : Ch) (b p : Nat) (w : World) (h : ChipIn w c bb pb M) (hb : b < M.nb) (hp : p < M.np) :
    Calls Try.prog 19 #[.pointer (some ⟨c, 0, none⟩), .int .i64 (b : Int), .int .i64 (p : Int)] w fun e w' => e = .returned (.int .i64 0) ∧ ChipIn w' c bb pb (M.spoilM b p) ∧ Upd (Own c bb pb M.nb) w w' := by
  have C0 := Lib.hid h.c0
  have B0 := Lib.hid (h.b0 hb)
  have hnb := h.nb
  have hnp := h.np
  have H := Lib.hid h
  clear h
  go_enter Try.func19, Try.ntmps19
  go_wp2_with (first | (go_at_call 38; refine (page_in c bb M.nb b (pb b) M.np p _ hnb C0.out hb B0.out hnp hp).mono ?_; rintro e w' ⟨rfl, rfl⟩) | (go_at_call 45; refine (spoilW_any (pb b) M.np M.sz p (M.bk b) _ (H.out.pgs b hb) hp).mono ?_; rintro e w1 ⟨rfl, hw1, hu1⟩; have H1 := Lib.hid hw1; have U1 := Lib.hid hu1; clear hw1 hu1))
  go_ret
  exact ⟨rfl, H.out.setPgs hb _ U1.out H1.out, upd_own hb U1.out⟩
set_option maxRecDepth 100000 in
theorem wear_out (c bb : Nat) (pb : Nat → Nat) (M : Ch) (b : Int) (w : World) (h : ChipIn w c bb pb M) (hr : b < 0 ∨ (M.nb : Int) ≤ b) :
    Calls Try.prog 21 #[.pointer (some ⟨c, 0, none⟩), .int .i64 b] w fun e w' => e = .returned (.int .i64 1) ∧ w = w' := by
  have C0 := Lib.hid h.c0
  have hnb := h.nb
  have HR := Lib.hid hr
  clear h hr
  go_enter Try.func21, Try.ntmps21
  go_wp2_with (go_at_call 31; refine (block_out c bb M.nb b _ hnb C0.out HR.out).mono ?_; rintro e w' ⟨rfl, rfl⟩)
  go_ret
  exact ⟨rfl, rfl⟩
set_option maxRecDepth 100000 in
theorem wear_in (c bb : Nat) (pb : Nat → Nat) (M : Ch) (b : Nat) (w : World) (h : ChipIn w c bb pb M) (hb : b < M.nb) :
    Calls Try.prog 21 #[.pointer (some ⟨c, 0, none⟩), .int .i64 (b : Int)] w fun e w' => e = .returned (.int .i64 0) ∧ ChipIn w' c bb pb (M.wearM b) ∧ Upd (Own c bb pb M.nb) w w' := by
  have C0 := Lib.hid h.c0
  have b3 := h.b3 hb rfl
  have f3 := h.bfree (4 * b + 3)
  have hnb := h.nb
  have E : Hid (ChipIn (w.setCell ⟨bb, 4 * b + 3, none⟩ (.bool true)) c bb pb (M.wearM b)) := Lib.hid (h.setBlk (4 * b + 3) (.bool true) (M.wearM b) (fun j hj => by
    unfold bkCell Ch.wearM Ch.setBk
    by_cases e : j = 4 * b + 3
    · subst e
      simp only [if_true, if_neg (show ¬ (4 * b + 3) % 4 = 0 by omega), if_neg (show ¬ (4 * b + 3) % 4 = 1 by omega), if_neg (show ¬ (4 * b + 3) % 4 = 2 by omega), show (4 * b + 3) / 4 = b by omega]
    · by_cases e2 : j / 4 = b
      · rw [if_neg e]
        simp only [e2, if_true]
        by_cases e3 : j % 4 = 0
        · simp [e3]
        · by_cases e4 : j % 4 = 1
          · simp [e4]
          · rw [if_neg e3, if_neg e4, if_pos (show j % 4 = 2 by omega), if_neg e3, if_neg e4, if_pos (show j % 4 = 2 by omega)]
      · simp only [if_neg e, if_neg e2]) rfl rfl rfl rfl (fun b' p _ _ => by
    unfold Ch.wearM Ch.setBk
    by_cases e : b' = b
    · subst e; simp
    · simp [e]))
  have U : Upd (oneBlock bb) w (w.setCell ⟨bb, 4 * b + 3, none⟩ (.bool true)) := (Upd.refl (oneBlock bb) w).setCell (p := ⟨bb, 4 * b + 3, none⟩) (.inl rfl) _
  have HU := Lib.hid U
  generalize (M.bk b).worn = wn at b3
  clear h U
  go_enter Try.func21, Try.ntmps21
  go_wp2_with (go_at_call 31; refine (block_in c bb M.nb b _ hnb C0.out hb).mono ?_; rintro e w' ⟨rfl, rfl⟩)
  go_ret
  exact ⟨rfl, E.out, upd_own_bb HU.out⟩

/-! the head -/
def cutMode (m : Int) : Nat := (if m < 0 then -(m + 1) else m).toNat % 8
def Ch.cutM (M : Ch) (n m : Int) : Ch := { M with left := (max n 1).toNat, mode := cutMode m }
def Ch.onM (M : Ch) : Ch := { M with off := false, left := 0 }
def Ch.noiseM (M : Ch) (seed most piece : Int) : Ch := { M with seed := IntKind.u64.wrap seed, most := min most 64, piece := piece }
set_option maxRecDepth 100000 in
theorem on_any (c bb : Nat) (pb : Nat → Nat) (M : Ch) (w : World) (h : ChipIn w c bb pb M) :
    Calls Try.prog 24 #[.pointer (some ⟨c, 0, none⟩)] w fun e w' => e = .returned (.tuple #[]) ∧ ChipIn w' c bb pb M.onM ∧ Upd (oneBlock c) w w' := by
  have c6 := h.c6 rfl
  have c7 : w.cell? ⟨c, 7, none⟩ = some (.int .i64 (M.left : Int)) := h.cell 7
  have f6 := h.free 6
  have f7 := h.free 7
  have h1 := h.setTop 6 (.bool false) { M with off := false } (by simp [chTop]) rfl rfl rfl rfl
  have H := Lib.hid (h1.setTop 7 (.int .i64 0) M.onM (by simp [chTop, Ch.onM]) rfl rfl rfl rfl)
  have U : Upd (oneBlock c) w ((w.setCell ⟨c, 6, none⟩ (.bool false)).setCell ⟨c, 7, none⟩ (.int .i64 0)) := ((Upd.refl (oneBlock c) w).setCell (p := ⟨c, 6, none⟩) (.inl rfl) _).setCell (p := ⟨c, 7, none⟩) (.inl rfl) _
  have HU := Lib.hid U
  generalize M.off = o at c6
  generalize (M.left : Int) = l at c7
  clear h h1 U
  go_enter Try.func24, Try.ntmps24
  go_wp2
  go_end0
  exact ⟨rfl, H.out, HU.out⟩
set_option maxRecDepth 100000 in
theorem off_any (c bb : Nat) (pb : Nat → Nat) (M : Ch) (w : World) (h : ChipIn w c bb pb M) :
    Calls Try.prog 26 #[.pointer (some ⟨c, 0, none⟩)] w fun e w' => e = .returned (.bool M.off) ∧ w = w' := by
  have c6 := h.c6 rfl
  clear h
  go_enter Try.func26, Try.ntmps26
  go_wp2
  go_ret
  exact ⟨rfl, rfl⟩
set_option maxRecDepth 100000 in
theorem changes_any (c bb : Nat) (pb : Nat → Nat) (M : Ch) (w : World) (h : ChipIn w c bb pb M) :
    Calls Try.prog 27 #[.pointer (some ⟨c, 0, none⟩)] w fun e w' => e = .returned (.int .i64 (M.changes : Int)) ∧ w = w' := by
  have c9 : w.cell? ⟨c, 9, none⟩ = some (.int .i64 (M.changes : Int)) := h.cell 9
  clear h
  go_enter Try.func27, Try.ntmps27
  go_wp2
  go_ret
  exact ⟨rfl, rfl⟩
set_option maxRecDepth 100000 in
theorem counts_out (c bb : Nat) (pb : Nat → Nat) (M : Ch) (b : Int) (w : World) (h : ChipIn w c bb pb M) (hr : b < 0 ∨ (M.nb : Int) ≤ b) :
    Calls Try.prog 28 #[.pointer (some ⟨c, 0, none⟩), .int .i64 b] w fun e w' => e = .returned (.tuple #[.int .i64 0, .int .i64 0]) ∧ ∃ k, w' = w.drewN k := by
  have C0 := Lib.hid h.c0
  have hnb := h.nb
  have HR := Lib.hid hr
  clear h hr
  go_enter Try.func28, Try.ntmps28
  go_wp2_with (go_at_call 31; refine (block_out c bb M.nb b _ hnb C0.out HR.out).mono ?_; rintro e w' ⟨rfl, rfl⟩)
  go_ret2
  exact ⟨rfl, 0, rfl⟩
set_option maxRecDepth 100000 in
theorem counts_in (c bb : Nat) (pb : Nat → Nat) (M : Ch) (b : Nat) (w : World) (h : ChipIn w c bb pb M) (hb : b < M.nb) :
    Calls Try.prog 28 #[.pointer (some ⟨c, 0, none⟩), .int .i64 (b : Int)] w fun e w' => e = .returned (.tuple #[.int .i64 ((M.bk b).er : Int), .int .i64 ((M.bk b).rd : Int)]) ∧ ∃ k, w' = w.drewN k := by
  have C0 := Lib.hid h.c0
  have b1 := h.b1 hb
  have b2 := h.b2 hb
  have hnb := h.nb
  clear h
  generalize ((M.bk b).er : Int) = er at *
  generalize ((M.bk b).rd : Int) = rd at *
  go_enter Try.func28, Try.ntmps28
  go_wp2_with (go_at_call 31; refine (block_in c bb M.nb b _ hnb C0.out hb).mono ?_; rintro e w' ⟨rfl, rfl⟩)
  go_quiet (fail)
  go_wp2
  go_ret2
  exact ⟨rfl, _, rfl⟩
set_option maxRecDepth 100000 in
theorem is_any (c bb : Nat) (pb : Nat → Nat) (M : Ch) (x y z : Int) (w : World) (h : ChipIn w c bb pb M) :
    Calls Try.prog 29 #[.pointer (some ⟨c, 0, none⟩), .int .i64 x, .int .i64 y, .int .i64 z] w fun e w' => e = .returned (.bool (((M.nb : Int) == x) && ((M.np : Int) == y) && ((M.sz : Int) == z))) ∧ w = w' := by
  have c0 := h.c0
  have c1 : w.cell? ⟨c, 1, none⟩ = some (.int .i64 (M.np : Int)) := h.cell 1
  have c2 := h.c2
  have hnb := h.nb
  clear h
  generalize M.nb = nb at *
  generalize M.np = np at *
  generalize M.sz = sz at *
  cases e0 : ((nb : Int) == x)
  · go_enter Try.func29, Try.ntmps29
    go_wp2
    go_ret
    exact ⟨rfl, rfl⟩
  · cases e1 : ((np : Int) == y)
    · go_enter Try.func29, Try.ntmps29
      go_wp2
      go_ret
      exact ⟨rfl, rfl⟩
    · cases e2 : ((sz : Int) == z)
      · go_enter Try.func29, Try.ntmps29
        go_wp2
        go_ret
        exact ⟨rfl, rfl⟩
      · go_enter Try.func29, Try.ntmps29
        go_wp2
        go_ret
        exact ⟨rfl, rfl⟩
set_option maxRecDepth 100000 in
theorem cut_any (c bb : Nat) (pb : Nat → Nat) (M : Ch) (n m : Int) (w : World) (h : ChipIn w c bb pb M) (hn : n ≤ 9223372036854775807) (hm : -9223372036854775808 ≤ m) (hm2 : m ≤ 9223372036854775807) :
    Calls Try.prog 23 #[.pointer (some ⟨c, 0, none⟩), .int .i64 n, .int .i64 m] w fun e w' => e = .returned (.tuple #[]) ∧ ChipIn w' c bb pb (M.cutM n m) ∧ Upd (oneBlock c) w w' := by
  have c7 : w.cell? ⟨c, 7, none⟩ = some (.int .i64 (M.left : Int)) := h.cell 7
  have c8 := h.c8
  have f7 := h.free 7
  have f8 := h.free 8
  have h1 := h.setTop 7 (.int .i64 (max n 1)) { M with left := (max n 1).toNat } (by simp [chTop]; omega) rfl rfl rfl rfl
  have h2 := h1.setTop 8 (.int .i64 ((cutMode m : Nat) : Int)) (M.cutM n m) (by simp [chTop, Ch.cutM]) rfl rfl rfl rfl
  have U : Upd (oneBlock c) w ((w.setCell ⟨c, 7, none⟩ (.int .i64 (max n 1))).setCell ⟨c, 8, none⟩ (.int .i64 ((cutMode m : Nat) : Int))) := ((Upd.refl (oneBlock c) w).setCell (p := ⟨c, 7, none⟩) (.inl rfl) _).setCell (p := ⟨c, 8, none⟩) (.inl rfl) _
  have H := Lib.hid h2
  have HU := Lib.hid U
  generalize (M.left : Int) = l at c7
  generalize (M.mode : Int) = md at c8
  clear h h1 h2 U
  by_cases hneg : m < 0
  · have e : ((cutMode m : Nat) : Int) = -(m + 1).tmod 8 := by unfold cutMode; rw [if_pos hneg, ← Int.neg_tmod, Int.tmod_eq_emod_of_nonneg (by omega)]; omega
    rw [e] at H HU
    clear e
    by_cases h1 : 1 ≤ n
    · rw [show max n 1 = n by omega] at H HU
      go_enter Try.func23, Try.ntmps23
      go_wp2
      go_end0
      exact ⟨rfl, H.out, HU.out⟩
    · rw [show max n 1 = 1 by omega] at H HU
      go_enter Try.func23, Try.ntmps23
      go_wp2
      go_end0
      exact ⟨rfl, H.out, HU.out⟩
  · have e : ((cutMode m : Nat) : Int) = m % 8 := by unfold cutMode; rw [if_neg hneg]; omega
    rw [e] at H HU
    clear e
    by_cases h1 : 1 ≤ n
    · rw [show max n 1 = n by omega] at H HU
      go_enter Try.func23, Try.ntmps23
      go_wp2
      go_end0
      exact ⟨rfl, H.out, HU.out⟩
    · rw [show max n 1 = 1 by omega] at H HU
      go_enter Try.func23, Try.ntmps23
      go_wp2
      go_end0
      exact ⟨rfl, H.out, HU.out⟩
set_option maxRecDepth 100000 in
theorem noise_any (c bb : Nat) (pb : Nat → Nat) (M : Ch) (s m p : Int) (w : World) (h : ChipIn w c bb pb M) :
    Calls Try.prog 25 #[.pointer (some ⟨c, 0, none⟩), .int .i64 s, .int .i64 m, .int .i64 p] w fun e w' => e = .returned (.tuple #[]) ∧ ChipIn w' c bb pb (M.noiseM s m p) ∧ Upd (oneBlock c) w w' := by
  have c3 : w.cell? ⟨c, 3, none⟩ = some (.int .u64 M.seed) := h.cell 3
  have c4 : w.cell? ⟨c, 4, none⟩ = some (.int .i64 M.most) := h.cell 4
  have c5 : w.cell? ⟨c, 5, none⟩ = some (.int .i64 M.piece) := h.cell 5
  have f3 := h.free 3
  have f4 := h.free 4
  have f5 := h.free 5
  have h1 := h.setTop 3 (.int .u64 (IntKind.u64.wrap s)) { M with seed := IntKind.u64.wrap s } (by simp [chTop]) rfl rfl rfl rfl
  have h2 := h1.setTop 4 (.int .i64 (min m 64)) { M with seed := IntKind.u64.wrap s, most := min m 64 } (by simp [chTop]) rfl rfl rfl rfl
  have h3 := h2.setTop 5 (.int .i64 p) (M.noiseM s m p) (by simp [chTop, Ch.noiseM]) rfl rfl rfl rfl
  have U : Upd (oneBlock c) w (((w.setCell ⟨c, 3, none⟩ (.int .u64 (IntKind.u64.wrap s))).setCell ⟨c, 4, none⟩ (.int .i64 (min m 64))).setCell ⟨c, 5, none⟩ (.int .i64 p)) :=
    (((Upd.refl (oneBlock c) w).setCell (p := ⟨c, 3, none⟩) (.inl rfl) _).setCell (p := ⟨c, 4, none⟩) (.inl rfl) _).setCell (p := ⟨c, 5, none⟩) (.inl rfl) _
  have H := Lib.hid h3
  have HU := Lib.hid U
  generalize M.seed = ms at c3
  generalize M.most = mm at c4
  generalize M.piece = mp at c5
  clear h h1 h2 h3 U
  by_cases h1 : m ≤ 64
  · rw [show min m 64 = m by omega] at H HU
    go_enter Try.func25, Try.ntmps25
    go_wp2
    go_end0
    exact ⟨rfl, H.out, HU.out⟩
  · rw [show min m 64 = 64 by omega] at H HU
    go_enter Try.func25, Try.ntmps25
    go_wp2
    go_end0
    exact ⟨rfl, H.out, HU.out⟩
end Go.Proofs.Ytibkdoomnidndaa
