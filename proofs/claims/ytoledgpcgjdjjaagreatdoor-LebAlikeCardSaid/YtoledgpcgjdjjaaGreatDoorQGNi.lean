import Derived.Test.YtoledgpcgjdjjaaGreatDoorQGNg
import Derived.Test.YtoledgpcgjdjjaaGreatDoorQShelf
/- Walks over package nand: Read, where no bits turn. -/
namespace Go.Proofs.YtoledgpcgjdjjaaGreatDoor
open Go.RowKit

def Pg.show (x : Pg) (n : Nat) : List UInt8 := if x.st = 0 then List.replicate n 255 else if x.st = 1 then x.data else List.replicate n 0
def ShowsW (w w' : World) (e : Ending) (l : List UInt8) : Prop := ∃ v, e = .returned v ∧ Bs w' w.heap.size 5 v l ∧ Upd noBlock w w'
theorem Bs.of_own {w : World} {B : Nat} {e : TypeId} {v : Value} {l : List UInt8} (h : w.ownsRow B e 1 v l.length ((l.map fun c => (c.toNat : Int)).map (Value.int .u8))) (hv : v ≠ .slice none 0 0) : Bs w B e v l := by
  obtain ⟨hx, h | ⟨g, cap, cur, rfl, hB, hg, hn, hc, hs, ht⟩⟩ := h
  · exact absurd h.1 hv
  · refine ⟨g, cap, cur, (0, 0), rfl, hB, hg, .inl rfl, hn, hc, by omega, fun j hj => ?_⟩
    have e1 : (cur.toList.take (l.length * 1))[j]? = some (.int .u8 (l[j].toNat : Int)) := by
      rw [ht]; simp [hj]
    rw [List.getElem?_take, if_pos (by omega)] at e1
    simpa using e1
set_option maxRecDepth 100000 in
theorem shown_written (q np sz p : Nat) (B : Bk) (w : World) (h : PgsIn w q np sz B) (hp : p < np) (hs : (B.pg p).st = 1) (n : Nat) (hn : sz ≤ 2048) :
    Calls Tryz.prog 120 #[.pointer (some ⟨q, 3 * p, none⟩), .int .i64 (n : Int)] w fun e w' => ShowsW w w' e (B.pg p).data := by
  obtain ⟨D, hD, hS, hd⟩ := h
  have c0 : w.cell? ⟨q, 3 * p, none⟩ = some (.int .i64 1) := by rw [hD.cell (by omega), pgCell0, hs]; rfl
  obtain ⟨hb, hl⟩ := hd p hp hs
  obtain ⟨g, cap, hv, _, hc⟩ := hb.cell
  have c2 : w.cell? ⟨q, 3 * p + 2, none⟩ = some (.slice (some ⟨g, 0, none⟩) (B.pg p).data.length cap) := by rw [hD.cell (by omega), pgCell2, hv]
  have HC := Lib.hid (Tryz.bytes_Clone_at ⟨g, 0, none⟩ (B.pg p).data.length cap ((B.pg p).data.map fun c => (c.toNat : Int)) w (by simp) (by omega) (fun i hi => by
    rw [add_zero_addr, hc i hi]
    simp [hi]))
  clear hd hS hb hc hv hs hD
  obtain ⟨l, hl2⟩ : ∃ l, l = (B.pg p).data := ⟨_, rfl⟩
  have HL := Lib.hid hl2
  rw [← hl2] at HC c2
  rw [← hl2]
  clear hl hl2
  go_enter Tryz.func120, Tryz.ntmps120
  go_wp2_with (go_at_call 164; refine HC.out.mono ?_; rintro e w' ⟨v', rfl, hown, hne, hbel⟩; have HO := Lib.hid hown; have HN := Lib.hid hne; have HBL := Lib.hid hbel; clear hown hne hbel)
  go_ret
  exact ⟨_, rfl, Bs.of_own HO.out HN.out, Upd.of_below HBL.out _⟩

def Ch.readM (M : Ch) (b : Nat) : Ch := M.setBk b { M.bk b with rd := (M.bk b).rd + 1 }
theorem ChipIn.readSet {w : World} {c bb : Nat} {pb : Nat → Nat} {M : Ch} (h : ChipIn w c bb pb M) {b : Nat} (_ : b < M.nb) :
    ChipIn (w.setCell ⟨bb, 4 * b + 2, none⟩ (.int .i64 (((M.bk b).rd : Int) + 1))) c bb pb (M.readM b) ∧ Upd (oneBlock bb) w (w.setCell ⟨bb, 4 * b + 2, none⟩ (.int .i64 (((M.bk b).rd : Int) + 1))) := by
  refine ⟨h.setBlk (4 * b + 2) (.int .i64 (((M.bk b).rd : Int) + 1)) (M.readM b) (fun j hj => ?_) rfl rfl rfl rfl (fun b' p _ _ => ?_), (Upd.refl (oneBlock bb) w).setCell (p := ⟨bb, 4 * b + 2, none⟩) (.inl rfl) _⟩
  · unfold bkCell Ch.readM Ch.setBk
    by_cases e : j = 4 * b + 2
    · subst e
      simp only [if_true, if_neg (show ¬ (4 * b + 2) % 4 = 0 by omega), if_neg (show ¬ (4 * b + 2) % 4 = 1 by omega), if_pos (show (4 * b + 2) % 4 = 2 by omega), show (4 * b + 2) / 4 = b by omega]; rfl
    · by_cases e2 : j / 4 = b
      · rw [if_neg e]
        simp only [e2, if_true]
        rw [if_neg (show ¬ j % 4 = 2 by omega), if_neg (show ¬ j % 4 = 2 by omega)]
      · simp only [if_neg e, if_neg e2]
  · unfold Ch.readM Ch.setBk
    by_cases e : b' = b
    · subst e; simp
    · simp [e]

set_option maxRecDepth 100000 in
set_option maxHeartbeats 1600000 in
theorem read_quiet (c bb : Nat) (pb : Nat → Nat) (M : Ch) (b p n : Nat) (l : List UInt8) (w : World) (h : ChipIn w c bb pb M) (hF : M.Fit n) (hn : n < 4611686018427387904) (hb : b < M.nb) (hp : p < M.np) (ho : M.off = false) (hq : M.most < 1 ∨ M.piece < 1)
    (hs : ∀ w1, PgsIn w1 (pb b) M.np M.sz (M.bk b) → Calls Tryz.prog 120 #[.pointer (some ⟨pb b, 3 * p, none⟩), .int .i64 (M.sz : Int)] w1 fun e w2 => ShowsW w1 w2 e l) :
    Calls Tryz.prog 98 #[.pointer (some ⟨c, 0, none⟩), .int .i64 (b : Int), .int .i64 (p : Int)] w fun e w' => e = .returned (.tuple #[.string ⟨l.toArray⟩, .int .i64 0]) ∧ ChipIn w' c bb pb (M.readM b) ∧ Upd (Own c bb pb M.nb) w w' := by
  have C0 := Lib.hid h.c0
  have B0 := Lib.hid (h.b0 hb)
  have c6 := h.c6 ho
  have b2 := h.b2 hb
  have f2 := h.bfree (4 * b + 2)
  have hnb := h.nb
  have hnp := h.np
  have hrd : (M.bk b).rd < 4611686018427387904 := Nat.lt_of_le_of_lt (hF.rd b) hn
  have H1 := Lib.hid (h.readSet hb)
  have hs1 := Lib.hid (hs _ (by have := (h.readSet hb).1.pgs b hb; exact this.congr (fun r _ => by simp [Ch.readM, Ch.setBk])))
  obtain ⟨w1, hw1⟩ : ∃ w1, w1 = w.setCell ⟨bb, 4 * b + 2, none⟩ (.int .i64 (((M.bk b).rd : Int) + 1)) := ⟨_, rfl⟩
  rw [← hw1] at H1 hs1
  have c2 : w1.cell? ⟨c, 2, none⟩ = some (.int .i64 (M.sz : Int)) := H1.out.1.c2
  have HW1 := Lib.hid hw1
  have HS := Lib.hid hs
  have HQ := Lib.hid hq
  rw [hw1] at c2
  rw [hw1] at hs1
  have HSS := hs1
  clear h ho hF hs hq hw1 hs1
  go_enter Tryz.func98, Tryz.ntmps98
  go_wp2_with (first | (go_at_call 43; refine (page_in c bb M.nb b (pb b) M.np p _ hnb C0.out hb B0.out hnp hp).mono ?_; rintro e w' ⟨rfl, rfl⟩) | (go_at_call 72; refine (block_in c bb M.nb b _ hnb C0.out hb).mono ?_; rintro e w' ⟨rfl, rfl⟩) | (go_at_call 120; refine HSS.out.mono ?_; rintro e w2 ⟨v, rfl, hbs, hu2⟩; have HB2 := Lib.hid hbs; have U2 := Lib.hid hu2; clear hbs hu2))
  obtain ⟨g, cap, hv, _, _⟩ := HB2.out.cell
  subst hv
  have H2 := Lib.hid (H1.out.1.grow (by rw [HW1.out]; exact U2.out))
  have d3 : w2.cell? ⟨c, 3, none⟩ = some (.int .u64 M.seed) := H2.out.cell 3
  have d4 : w2.cell? ⟨c, 4, none⟩ = some (.int .i64 M.most) := H2.out.cell 4
  have d5 : w2.cell? ⟨c, 5, none⟩ = some (.int .i64 M.piece) := H2.out.cell 5
  have e2 : w2.cell? ⟨bb, 4 * b + 2, none⟩ = some (.int .i64 (((M.bk b).rd : Int) + 1)) := by
    have := H2.out.b2 hb
    rw [this]
    simp [Ch.readM, Ch.setBk]
  go_still_tail 11, (by kernel_rfl)
  change wpList _ _ _ _ _ w2.drew
  have Ud : Upd noBlock w2 w2.drew := (Upd.refl noBlock w2).drew
  generalize w2.drew = w2d at *
  have HU := Lib.hid Ud
  clear Ud
  go_wp2_with (go_at_call 121; refine (quiet_any _ _ _ _ _ _ _ _ HQ.out ⟨_, _, _, rfl⟩).mono ?_; rintro e w3 ⟨rfl, hu3⟩; have U3 := Lib.hid (HU.out.trans hu3); have hcv := (HB2.out.grow U3.out).text 105 9 Tryz.underlying105 Tryz.underlying5 Tryz.underlying9; clear hu3)
  go_ret2
  refine ⟨rfl, H2.out.grow U3.out, (upd_own_bb (by have := H1.out.2; rw [HW1.out] at this; exact this)).trans (upd_own_0 (U2.out.trans U3.out))⟩
end Go.Proofs.YtoledgpcgjdjjaaGreatDoor

/- The law's look that the chip speaks; no chip. -/
namespace Go.Proofs.YtoledgpcgjdjjaaGreatDoor
open Go.RowKit

/-! numbers stay in their bounds -/
theorem Ch.Fit.mono {M : Ch} {n m : Nat} (h : M.Fit n) (hm : n ≤ m) : M.Fit m :=
  ⟨h.mode, h.left, Nat.le_trans h.changes hm, fun b => Nat.le_trans (h.er b) hm, fun b => Nat.le_trans (h.rd b) hm⟩
theorem newCh_fit (nb np sz : Nat) : (newCh nb np sz).Fit 0 := ⟨by show 0 < 8; omega, by show 0 ≤ _; omega, Nat.le_refl _, fun _ => Nat.le_refl _, fun _ => Nat.le_refl _⟩
theorem Ch.Fit.changed {M : Ch} {n : Nat} (h : M.Fit n) : M.changed.Fit (n + 1) :=
  ⟨h.mode, by have := h.left; show M.left - 1 ≤ _; omega, by have := h.changes; show M.changes + 1 ≤ _; omega, fun b => Nat.le_succ_of_le (h.er b), fun b => Nat.le_succ_of_le (h.rd b)⟩
theorem Ch.Fit.setBk {M : Ch} {n : Nat} (h : M.Fit n) (b : Nat) (B : Bk) (h1 : B.er ≤ n) (h2 : B.rd ≤ n) : (M.setBk b B).Fit n :=
  ⟨h.mode, h.left, h.changes, fun k => by
    show (if k = b then B else M.bk k).er ≤ n
    by_cases e : k = b
    · rw [if_pos e]; exact h1
    · rw [if_neg e]; exact h.er k, fun k => by
    show (if k = b then B else M.bk k).rd ≤ n
    by_cases e : k = b
    · rw [if_pos e]; exact h2
    · rw [if_neg e]; exact h.rd k⟩
theorem tearP_er (B : Bk) (p : Nat) (l : List UInt8) (m : Nat) : (tearP B p l m).er = B.er ∧ (tearP B p l m).rd = B.rd ∧ (tearP B p l m).worn = B.worn := by
  rw [← tearP_same]; exact ⟨rfl, rfl, rfl⟩
theorem Ch.Fit.prog {M : Ch} {n : Nat} (h : M.Fit n) (b p : Nat) (l : List UInt8) : (M.progM b p l).Fit (n + 1) := by
  have hm := h.mono (Nat.le_succ n)
  unfold Ch.progM
  split
  · exact hm
  · split
    · exact hm
    · split
      · split
        · exact h.changed.setBk b _ (by rw [(tearP_er _ _ _ _).1]; exact Nat.le_succ_of_le (h.er b)) (by rw [(tearP_er _ _ _ _).2.1]; exact Nat.le_succ_of_le (h.rd b))
        · exact h.changed.setBk b _ (Nat.le_succ_of_le (h.er b)) (Nat.le_succ_of_le (h.rd b))
      · exact hm
theorem Ch.Fit.erase {M : Ch} {n : Nat} (h : M.Fit n) (b : Nat) : (M.eraseM b).Fit (n + 1) := by
  have hm := h.mono (Nat.le_succ n)
  unfold Ch.eraseM
  split
  · exact hm
  · split
    · exact hm
    · split
      · exact h.changed.setBk b _ (by have := h.er b; show (M.bk b).er + 1 ≤ _; omega) (Nat.zero_le _)
      · exact h.changed.setBk b _ (by have := h.er b; show (M.bk b).er + 1 ≤ _; omega) (Nat.zero_le _)
theorem Ch.Fit.read {M : Ch} {n : Nat} (h : M.Fit n) (b : Nat) : (M.readM b).Fit (n + 1) :=
  (h.mono (Nat.le_succ n)).setBk b _ (Nat.le_succ_of_le (h.er b)) (by have := h.rd b; show (M.bk b).rd + 1 ≤ _; omega)
theorem Ch.Fit.spoil {M : Ch} {n : Nat} (h : M.Fit n) (b p : Nat) : (M.spoilM b p).Fit n := h.setBk b _ (h.er b) (h.rd b)
theorem Ch.Fit.wear {M : Ch} {n : Nat} (h : M.Fit n) (b : Nat) : (M.wearM b).Fit n := h.setBk b _ (h.er b) (h.rd b)
theorem Ch.Fit.cut {M : Ch} {n : Nat} (h : M.Fit n) (a m : Int) (ha : a ≤ 9223372036854775807) : (M.cutM a m).Fit n :=
  ⟨Nat.mod_lt _ (by decide), by show (max a 1).toNat ≤ _; omega, h.changes, h.er, h.rd⟩
theorem Ch.Fit.on {M : Ch} {n : Nat} (h : M.Fit n) : M.onM.Fit n := ⟨h.mode, Nat.zero_le _, h.changes, h.er, h.rd⟩
theorem Ch.Fit.noise {M : Ch} {n : Nat} (h : M.Fit n) (s m p : Int) : (M.noiseM s m p).Fit n := ⟨h.mode, h.left, h.changes, h.er, h.rd⟩

def NewC (nb np sz : Nat) (w w' : World) (e : Ending) : Prop :=
  ∃ c bb pb, e = .returned (.tuple #[.pointer (some ⟨c, 0, none⟩), .int .i64 0]) ∧ ChipIn w' c bb pb (newCh nb np sz) ∧ Upd noBlock w w' ∧ ∀ k, Own c bb pb nb k → w.heap.size ≤ k
theorem new_at (nb np sz : Nat) (x y z : Int) (hx : x = (nb : Int)) (hy : y = (np : Int)) (hz : z = (sz : Int)) (w : World) (h1 : 1 ≤ nb) (h2 : nb ≤ 64) (h3 : 4 ≤ np) (h4 : np ≤ 64) (h5 : np % 4 = 0) (h6 : 1 ≤ sz) (h7 : sz ≤ 2048) :
    Calls Tryz.prog 33 #[.int .i64 x, .int .i64 y, .int .i64 z] w fun e w' => NewC nb np sz w w' e := by
  subst hx hy hz
  refine (chipNew_any nb np sz w h1 h2 h3 h4 h5 h6 h7).mono ?_
  rintro e w' ⟨he, hc, hu⟩
  refine ⟨_, _, _, he, hc, hu, ?_⟩
  rintro k (rfl | rfl | ⟨b, _, rfl⟩)
  · omega
  · omega
  · show w.heap.size ≤ w.heap.size + 2 + b; omega
theorem program_at (c bb : Nat) (pb : Nat → Nat) (M : Ch) (x y : Int) (b p n : Nat) (hx : x = (b : Int)) (hy : y = (p : Int)) (s : ByteArray) (l : List UInt8) (hl : l = s.data.toList) (r : Int) (hr : r = M.progE b p) (w : World) (h : ChipIn w c bb pb M) (hF : M.Fit n) (hn : n < 4611686018427387904) (hb : b < M.nb) (hp : p < M.np) (hs : s.size = M.sz) :
    Calls Tryz.prog 140 #[.pointer (some ⟨c, 0, none⟩), .int .i64 x, .int .i64 y, .string s] w fun e w' => e = .returned (.int .i64 r) ∧ ChipIn w' c bb pb (M.progM b p l) ∧ Upd (Own c bb pb M.nb) w w' := by
  subst hx hy hl hr; exact program_in c bb pb M b p n s w h hF hn hb hp hs
theorem read_at (c bb : Nat) (pb : Nat → Nat) (M : Ch) (x y : Int) (b p n : Nat) (hx : x = (b : Int)) (hy : y = (p : Int)) (l : List UInt8) (s : ByteArray) (hsl : s = ⟨l.toArray⟩) (w : World) (h : ChipIn w c bb pb M) (hF : M.Fit n) (hn : n < 4611686018427387904) (hb : b < M.nb) (hp : p < M.np) (ho : M.off = false) (hq : M.most < 1 ∨ M.piece < 1)
    (hs : ∀ w1, PgsIn w1 (pb b) M.np M.sz (M.bk b) → Calls Tryz.prog 120 #[.pointer (some ⟨pb b, 3 * p, none⟩), .int .i64 (M.sz : Int)] w1 fun e w2 => ShowsW w1 w2 e l) :
    Calls Tryz.prog 98 #[.pointer (some ⟨c, 0, none⟩), .int .i64 x, .int .i64 y] w fun e w' => e = .returned (.tuple #[.string s, .int .i64 0]) ∧ ChipIn w' c bb pb (M.readM b) ∧ Upd (Own c bb pb M.nb) w w' := by
  subst hx hy hsl; exact read_quiet c bb pb M b p n l w h hF hn hb hp ho hq hs
end Go.Proofs.YtoledgpcgjdjjaaGreatDoor
