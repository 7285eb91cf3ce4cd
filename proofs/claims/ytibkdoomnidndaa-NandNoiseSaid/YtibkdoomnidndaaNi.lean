/- Walks over package nand: Read, where no bits turn. -/
import Derived.Test.YtibkdoomnidndaaNh
import Derived.Test.YtibkdoomnidndaaShelf
namespace Go.Proofs.Ytibkdoomnidndaa
open Go.RowKit

/-- what a page shows -/
def Pg.show (x : Pg) (n : Nat) : List UInt8 := if x.st = 0 then List.replicate n 255 else if x.st = 1 then x.data else List.replicate n 0
def ShowsW (w w' : World) (e : Ending) (l : List UInt8) : Prop := ∃ v, e = .returned v ∧ Bs w' w.heap.size 5 v l ∧ Upd noBlock w w'
theorem Bs.of_own {w : World} {B : Nat} {e : TypeId} {v : Value} {l : List UInt8} (h : w.ownsRow B e 1 v l.length ((l.map fun c => (c.toNat : Int)).map (Value.int .u8))) (hv : v ≠ .slice none 0 0) : Bs w B e v l := by
  obtain ⟨hx, h | ⟨g, cap, cur, rfl, hB, hg, hn, hc, hs, ht⟩⟩ := h
  · exact absurd h.1 hv
  · refine ⟨g, cap, cur, (0, 0), rfl, hB, hg, .inl rfl, hn, hc, by omega, fun j hj => ?_⟩
    have e1 : (cur.toList.take (l.length * 1))[j]? = some (.int .u8 (l[j].toNat : Int)) := by
      rw [ht]; simp [hj]
    rw [List.getElem?_take, if_pos (by omega)] at e1
    simpa using e1
set_option maxRecDepth 100000 in
theorem shown_written (q np sz p : Nat) (B : Bk) (w : World) (h : PgsIn w q np sz B) (hp : p < np) (hs : (B.pg p).st = 1) (n : Nat) (hn : sz ≤ 2048) :
    Calls Try.prog 43 #[.pointer (some ⟨q, 3 * p, none⟩), .int .i64 (n : Int)] w fun e w' => ShowsW w w' e (B.pg p).data := by
  obtain ⟨D, hD, hS, hd⟩ := h
  have c0 : w.cell? ⟨q, 3 * p, none⟩ = some (.int .i64 1) := by rw [hD.cell (by omega), pgCell0, hs]; rfl
  obtain ⟨hb, hl⟩ := hd p hp hs
  obtain ⟨g, cap, hv, _, hc⟩ := hb.cell
  have c2 : w.cell? ⟨q, 3 * p + 2, none⟩ = some (.slice (some ⟨g, 0, none⟩) (B.pg p).data.length cap) := by rw [hD.cell (by omega), pgCell2, hv]
  have HC := Lib.hid (Try.bytes_Clone_at ⟨g, 0, none⟩ (B.pg p).data.length cap ((B.pg p).data.map fun c => (c.toNat : Int)) w (by simp) (by omega) (fun i hi => by
    rw [add_zero_addr, hc i hi]
    simp [hi]))
  clear hd hS hb hc hv hs hD
  obtain ⟨l, hl2⟩ : ∃ l, l = (B.pg p).data := ⟨_, rfl⟩
  have HL := Lib.hid hl2
  rw [← hl2] at HC c2
  rw [← hl2]
  clear hl hl2
  go_enter Try.func43, Try.ntmps43
  go_wp2_with (go_at_call 49; refine HC.out.mono ?_; rintro e w' ⟨v', rfl, hown, hne, hbel⟩; have HO := Lib.hid hown; have HN := Lib.hid hne; have HBL := Lib.hid hbel; clear hown hne hbel)
  go_ret
  exact ⟨_, rfl, Bs.of_own HO.out HN.out, Upd.of_below HBL.out _⟩

def Ch.readM (M : Ch) (b : Nat) : Ch := M.setBk b { M.bk b with rd := (M.bk b).rd + 1 }
theorem ChipIn.readSet {w : World} {c bb : Nat} {pb : Nat → Nat} {M : Ch} (h : ChipIn w c bb pb M) {b : Nat} (_ : b < M.nb) :
    ChipIn (w.setCell ⟨bb, 4 * b + 2, none⟩ (.int .i64 (((M.bk b).rd : Int) + 1))) c bb pb (M.readM b) ∧ Upd (oneBlock bb) w (w.setCell ⟨bb, 4 * b + 2, none⟩ (.int .i64 (((M.bk b).rd : Int) + 1))) := by
  refine ⟨h.setBlk (4 * b + 2) (.int .i64 (((M.bk b).rd : Int) + 1)) (M.readM b) (fun j hj => ?_) rfl rfl rfl rfl (fun b' p _ _ => ?_), (Upd.refl (oneBlock bb) w).setCell (p := ⟨bb, 4 * b + 2, none⟩) (.inl rfl) _⟩
  · unfold bkCell Ch.readM Ch.setBk
    by_cases e : j = 4 * b + 2
    · subst e
      simp only [if_true, if_neg (show ¬ (4 * b + 2) % 4 = 0 by omega), if_neg (show ¬ (4 * b + 2) % 4 = 1 by omega), if_pos (show (4 * b + 2) % 4 = 2 by omega), show (4 * b + 2) / 4 = b by omega]; rfl
    · by_cases e2 : j / 4 = b
      · rw [if_neg e]
        simp only [e2, if_true]
        rw [if_neg (show ¬ j % 4 = 2 by omega), if_neg (show ¬ j % 4 = 2 by omega)]
      · simp only [if_neg e, if_neg e2]
  · unfold Ch.readM Ch.setBk
    by_cases e : b' = b
    · subst e; simp
    · simp [e]

set_option maxRecDepth 100000 in
theorem read_out (c bb : Nat) (pb : Nat → Nat) (M : Ch) (b p : Int) (w : World) (h : ChipIn w c bb pb M) (hr : b < 0 ∨ (M.nb : Int) ≤ b) :
    Calls Try.prog 17 #[.pointer (some ⟨c, 0, none⟩), .int .i64 b, .int .i64 p] w fun e w' => e = .returned (.tuple #[.string ⟨#[]⟩, .int .i64 1]) ∧ w = w' := by
  have C0 := Lib.hid h.c0
  have hnb := h.nb
  have HR := Lib.hid hr
  clear h hr
  go_enter Try.func17, Try.ntmps17
  go_wp2_with (go_at_call 38; refine (page_out_b c bb M.nb b p _ hnb C0.out HR.out).mono ?_; rintro e w' ⟨rfl, rfl⟩)
  go_ret2
  exact ⟨rfl, rfl⟩
set_option maxRecDepth 100000 in
theorem read_out_p (c bb : Nat) (pb : Nat → Nat) (M : Ch) (b : Nat) (p : Int) (w : World) (h : ChipIn w c bb pb M) (hb : b < M.nb) (hr : p < 0 ∨ (M.np : Int) ≤ p) :
    Calls Try.prog 17 #[.pointer (some ⟨c, 0, none⟩), .int .i64 (b : Int), .int .i64 p] w fun e w' => e = .returned (.tuple #[.string ⟨#[]⟩, .int .i64 1]) ∧ w = w' := by
  have C0 := Lib.hid h.c0
  have B0 := Lib.hid (h.b0 hb)
  have hnb := h.nb
  have hnp := h.np
  have HR := Lib.hid hr
  clear h hr
  go_enter Try.func17, Try.ntmps17
  go_wp2_with (go_at_call 38; refine (page_out_p c bb M.nb b (pb b) M.np p _ hnb C0.out hb B0.out hnp HR.out).mono ?_; rintro e w' ⟨rfl, rfl⟩)
  go_ret2
  exact ⟨rfl, rfl⟩
set_option maxRecDepth 100000 in
theorem read_off (c bb : Nat) (pb : Nat → Nat) (M : Ch) (b p : Nat) (w : World) (h : ChipIn w c bb pb M) (hb : b < M.nb) (hp : p < M.np) (ho : M.off = true) :
    Calls Try.prog 17 #[.pointer (some ⟨c, 0, none⟩), .int .i64 (b : Int), .int .i64 (p : Int)] w fun e w' => e = .returned (.tuple #[.string ⟨#[]⟩, .int .i64 20]) ∧ w = w' := by
  have C0 := Lib.hid h.c0
  have B0 := Lib.hid (h.b0 hb)
  have c6 := h.c6 ho
  have hnb := h.nb
  have hnp := h.np
  clear h ho
  go_enter Try.func17, Try.ntmps17
  go_wp2_with (go_at_call 38; refine (page_in c bb M.nb b (pb b) M.np p _ hnb C0.out hb B0.out hnp hp).mono ?_; rintro e w' ⟨rfl, rfl⟩)
  go_ret2
  exact ⟨rfl, rfl⟩
set_option maxRecDepth 100000 in
set_option maxHeartbeats 1600000 in
theorem read_quiet (c bb : Nat) (pb : Nat → Nat) (M : Ch) (b p n : Nat) (l : List UInt8) (w : World) (h : ChipIn w c bb pb M) (hF : M.Fit n) (hn : n < 4611686018427387904) (hb : b < M.nb) (hp : p < M.np) (ho : M.off = false) (hq : M.most < 1 ∨ M.piece < 1)
    (hs : ∀ w1, PgsIn w1 (pb b) M.np M.sz (M.bk b) → Calls Try.prog 43 #[.pointer (some ⟨pb b, 3 * p, none⟩), .int .i64 (M.sz : Int)] w1 fun e w2 => ShowsW w1 w2 e l) :
    Calls Try.prog 17 #[.pointer (some ⟨c, 0, none⟩), .int .i64 (b : Int), .int .i64 (p : Int)] w fun e w' => e = .returned (.tuple #[.string ⟨l.toArray⟩, .int .i64 0]) ∧ ChipIn w' c bb pb (M.readM b) ∧ Upd (Own c bb pb M.nb) w w' := by
  have C0 := Lib.hid h.c0
  have B0 := Lib.hid (h.b0 hb)
  have c6 := h.c6 ho
  have b2 := h.b2 hb
  have f2 := h.bfree (4 * b + 2)
  have hnb := h.nb
  have hnp := h.np
  have hrd : (M.bk b).rd < 4611686018427387904 := Nat.lt_of_le_of_lt (hF.rd b) hn
  have H1 := Lib.hid (h.readSet hb)
  have hs1 := Lib.hid (hs _ (by have := (h.readSet hb).1.pgs b hb; exact this.congr (fun r _ => by simp [Ch.readM, Ch.setBk])))
  obtain ⟨w1, hw1⟩ : ∃ w1, w1 = w.setCell ⟨bb, 4 * b + 2, none⟩ (.int .i64 (((M.bk b).rd : Int) + 1)) := ⟨_, rfl⟩
  rw [← hw1] at H1 hs1
  have c2 : w1.cell? ⟨c, 2, none⟩ = some (.int .i64 (M.sz : Int)) := H1.out.1.c2
  have HW1 := Lib.hid hw1
  have HS := Lib.hid hs
  have HQ := Lib.hid hq
  rw [hw1] at c2
  rw [hw1] at hs1
  have HSS := hs1
  clear h ho hF hs hq hw1 hs1
  go_enter Try.func17, Try.ntmps17
  go_wp2_with (first | (go_at_call 38; refine (page_in c bb M.nb b (pb b) M.np p _ hnb C0.out hb B0.out hnp hp).mono ?_; rintro e w' ⟨rfl, rfl⟩) | (go_at_call 31; refine (block_in c bb M.nb b _ hnb C0.out hb).mono ?_; rintro e w' ⟨rfl, rfl⟩) | (go_at_call 43; refine HSS.out.mono ?_; rintro e w2 ⟨v, rfl, hbs, hu2⟩; have HB2 := Lib.hid hbs; have U2 := Lib.hid hu2; clear hbs hu2))
  obtain ⟨g, cap, hv, _, _⟩ := HB2.out.cell
  subst hv
  have H2 := Lib.hid (H1.out.1.grow (by rw [HW1.out]; exact U2.out))
  have d3 : w2.cell? ⟨c, 3, none⟩ = some (.int .u64 M.seed) := H2.out.cell 3
  have d4 : w2.cell? ⟨c, 4, none⟩ = some (.int .i64 M.most) := H2.out.cell 4
  have d5 : w2.cell? ⟨c, 5, none⟩ = some (.int .i64 M.piece) := H2.out.cell 5
  have e2 : w2.cell? ⟨bb, 4 * b + 2, none⟩ = some (.int .i64 (((M.bk b).rd : Int) + 1)) := by
    have := H2.out.b2 hb
    rw [this]
    simp [Ch.readM, Ch.setBk]
  go_still_tail 11, (by kernel_rfl)
  change wpList _ _ _ _ _ w2.drew
  have Ud : Upd noBlock w2 w2.drew := (Upd.refl noBlock w2).drew
  generalize w2.drew = w2d at *
  have HU := Lib.hid Ud
  clear Ud
  go_wp2_with (go_at_call 44; refine (quiet_any _ _ _ _ _ _ _ _ HQ.out ⟨_, _, _, rfl⟩).mono ?_; rintro e w3 ⟨rfl, hu3⟩; have U3 := Lib.hid (HU.out.trans hu3); have hcv := (HB2.out.grow U3.out).text 35 9 Try.underlying35 Try.underlying5 Try.underlying9; clear hu3)
  go_ret2
  refine ⟨rfl, H2.out.grow U3.out, (upd_own_bb (by have := H1.out.2; rw [HW1.out] at this; exact this)).trans (upd_own_0 (U2.out.trans U3.out))⟩
end Go.Proofs.Ytibkdoomnidndaa
