/- Walks over package nand: Program. -/
import Derived.Test.YtibkdoomnidndaaNd
namespace Go.Proofs.Ytibkdoomnidndaa
open Go.RowKit

theorem refusal_off (c bb b : Nat) (worn : Bool) (w : World) (h0 : w.cell? ⟨c, 6, none⟩ = some (.bool true)) (h1 : w.cell? ⟨bb, 4 * b + 3, none⟩ = some (.bool worn)) :
    Calls Try.prog 32 #[.pointer (some ⟨c, 0, none⟩), .pointer (some ⟨bb, 4 * b, none⟩)] w fun e w' => e = .returned (.int .i64 20) ∧ w = w' := refusal_any c bb b true worn w h0 h1
theorem refusal_worn (c bb b : Nat) (w : World) (h0 : w.cell? ⟨c, 6, none⟩ = some (.bool false)) (h1 : w.cell? ⟨bb, 4 * b + 3, none⟩ = some (.bool true)) :
    Calls Try.prog 32 #[.pointer (some ⟨c, 0, none⟩), .pointer (some ⟨bb, 4 * b, none⟩)] w fun e w' => e = .returned (.int .i64 22) ∧ w = w' := refusal_any c bb b false true w h0 h1
theorem refusal_ok (c bb b : Nat) (w : World) (h0 : w.cell? ⟨c, 6, none⟩ = some (.bool false)) (h1 : w.cell? ⟨bb, 4 * b + 3, none⟩ = some (.bool false)) :
    Calls Try.prog 32 #[.pointer (some ⟨c, 0, none⟩), .pointer (some ⟨bb, 4 * b, none⟩)] w fun e w' => e = .returned (.int .i64 0) ∧ w = w' := refusal_any c bb b false false w h0 h1

/-- numbers that stay in their bounds -/
structure Ch.Fit (M : Ch) (n : Nat) : Prop where
  mode : M.mode < 8
  left : M.left ≤ 9223372036854775807
  changes : M.changes ≤ n
  er : ∀ b, (M.bk b).er ≤ n
  rd : ∀ b, (M.bk b).rd ≤ n

def Ch.refused (M : Ch) (b p : Nat) : Int := if M.off then 20 else if (M.bk b).worn then 22 else if blankFrom (M.bk b) M.np p then 0 else 21
def Ch.progE (M : Ch) (b p : Nat) : Int := if M.off then 20 else if (M.bk b).worn then 22 else if blankFrom (M.bk b) M.np p then (if M.torn then 20 else 0) else 21
def Ch.progM (M : Ch) (b p : Nat) (l : List UInt8) : Ch :=
  if M.off then M else if (M.bk b).worn then M else if blankFrom (M.bk b) M.np p then
    (if M.torn then M.changed.setBk b (tearP (M.bk b) p l M.mode) else M.changed.setBk b ((M.bk b).setPg p (((M.bk b).pg p).write l))) else M
theorem tearP_same (B : Bk) (p : Nat) (l : List UInt8) (m : Nat) : { B with pg := (tearP B p l m).pg } = tearP B p l m := by
  unfold tearP
  by_cases h : 2 ≤ p % 4 ∧ 4 ≤ m
  · rw [if_pos h]; rfl
  · rw [if_neg h]; rfl
theorem upd_own {w w' : World} {c bb : Nat} {pb : Nat → Nat} {nb b : Nat} (hb : b < nb) (h : Upd (oneBlock (pb b)) w w') : Upd (Own c bb pb nb) w w' :=
  h.mono (fun _ _ e => .inr (.inr ⟨b, hb, e⟩))
theorem upd_own_c {w w' : World} {c bb : Nat} {pb : Nat → Nat} {nb : Nat} (h : Upd (oneBlock c) w w') : Upd (Own c bb pb nb) w w' := h.mono (fun _ _ e => .inl e)
theorem upd_own_bb {w w' : World} {c bb : Nat} {pb : Nat → Nat} {nb : Nat} (h : Upd (oneBlock bb) w w') : Upd (Own c bb pb nb) w w' := h.mono (fun _ _ e => .inr (.inl e))
theorem upd_own_0 {w w' : World} {c bb : Nat} {pb : Nat → Nat} {nb : Nat} (h : Upd noBlock w w') : Upd (Own c bb pb nb) w w' := h.mono (fun _ _ e => absurd e (fun h => h))

section
variable {w : World} {c bb : Nat} {pb : Nat → Nat} {M : Ch}
theorem ChipIn.c0 (h : ChipIn w c bb pb M) : w.cell? ⟨c, 0, none⟩ = some (.slice (some ⟨bb, 0, none⟩) M.nb M.nb) := h.cell 0
theorem ChipIn.c2 (h : ChipIn w c bb pb M) : w.cell? ⟨c, 2, none⟩ = some (.int .i64 (M.sz : Int)) := h.cell 2
theorem ChipIn.c6 (h : ChipIn w c bb pb M) {o : Bool} (ho : M.off = o) : w.cell? ⟨c, 6, none⟩ = some (.bool o) := by rw [← ho]; exact h.cell 6
theorem ChipIn.c8 (h : ChipIn w c bb pb M) : w.cell? ⟨c, 8, none⟩ = some (.int .i64 (M.mode : Int)) := h.cell 8
theorem ChipIn.b0 (h : ChipIn w c bb pb M) {b : Nat} (hb : b < M.nb) : w.cell? ⟨bb, 4 * b, none⟩ = some (.slice (some ⟨pb b, 0, none⟩) M.np M.np) := by rw [h.bcell _ (by omega), bkCell0]
theorem ChipIn.b1 (h : ChipIn w c bb pb M) {b : Nat} (hb : b < M.nb) : w.cell? ⟨bb, 4 * b + 1, none⟩ = some (.int .i64 ((M.bk b).er : Int)) := by rw [h.bcell _ (by omega), bkCell1]
theorem ChipIn.b2 (h : ChipIn w c bb pb M) {b : Nat} (hb : b < M.nb) : w.cell? ⟨bb, 4 * b + 2, none⟩ = some (.int .i64 ((M.bk b).rd : Int)) := by rw [h.bcell _ (by omega), bkCell2]
theorem ChipIn.b3 (h : ChipIn w c bb pb M) {b : Nat} (hb : b < M.nb) {o : Bool} (ho : (M.bk b).worn = o) : w.cell? ⟨bb, 4 * b + 3, none⟩ = some (.bool o) := by rw [h.bcell _ (by omega), bkCell3, ho]
end

set_option maxRecDepth 100000 in
theorem program_out (c bb : Nat) (pb : Nat → Nat) (M : Ch) (b p : Int) (s : ByteArray) (w : World) (h : ChipIn w c bb pb M) (hr : b < 0 ∨ (M.nb : Int) ≤ b) :
    Calls Try.prog 15 #[.pointer (some ⟨c, 0, none⟩), .int .i64 b, .int .i64 p, .string s] w fun e w' => e = .returned (.int .i64 1) ∧ w = w' := by
  have C0 := Lib.hid h.c0
  have hnb := h.nb
  have HR := Lib.hid hr
  clear h hr
  go_enter Try.func15, Try.ntmps15
  go_wp2_with (go_at_call 38; refine (page_out_b c bb M.nb b p _ hnb C0.out HR.out).mono ?_; rintro e w' ⟨rfl, rfl⟩)
  go_ret
  exact ⟨rfl, rfl⟩
set_option maxRecDepth 100000 in
theorem program_out_p (c bb : Nat) (pb : Nat → Nat) (M : Ch) (b : Nat) (p : Int) (s : ByteArray) (w : World) (h : ChipIn w c bb pb M) (hb : b < M.nb) (hr : p < 0 ∨ (M.np : Int) ≤ p) :
    Calls Try.prog 15 #[.pointer (some ⟨c, 0, none⟩), .int .i64 (b : Int), .int .i64 p, .string s] w fun e w' => e = .returned (.int .i64 1) ∧ w = w' := by
  have C0 := Lib.hid h.c0
  have B0 := Lib.hid (h.b0 hb)
  have hnb := h.nb
  have hnp := h.np
  have HR := Lib.hid hr
  clear h hr
  go_enter Try.func15, Try.ntmps15
  go_wp2_with (go_at_call 38; refine (page_out_p c bb M.nb b (pb b) M.np p _ hnb C0.out hb B0.out hnp HR.out).mono ?_; rintro e w' ⟨rfl, rfl⟩)
  go_ret
  exact ⟨rfl, rfl⟩
set_option maxRecDepth 100000 in
theorem program_size (c bb : Nat) (pb : Nat → Nat) (M : Ch) (b p : Nat) (s : ByteArray) (w : World) (h : ChipIn w c bb pb M) (hb : b < M.nb) (hp : p < M.np) (hs : ¬ s.size = M.sz) :
    Calls Try.prog 15 #[.pointer (some ⟨c, 0, none⟩), .int .i64 (b : Int), .int .i64 (p : Int), .string s] w fun e w' => e = .returned (.int .i64 1) ∧ w = w' := by
  have C0 := Lib.hid h.c0
  have c2 := h.c2
  have B0 := Lib.hid (h.b0 hb)
  have hnb := h.nb
  have hnp := h.np
  have hne : ((s.size : Int) != (M.sz : Int)) = true := bne_iff_ne.2 (by omega)
  have HS := Lib.hid hs
  clear h hs
  go_enter Try.func15, Try.ntmps15
  go_wp2_with (go_at_call 38; refine (page_in c bb M.nb b (pb b) M.np p _ hnb C0.out hb B0.out hnp hp).mono ?_; rintro e w' ⟨rfl, rfl⟩)
  go_ret
  exact ⟨rfl, rfl⟩

set_option maxRecDepth 100000 in
set_option maxHeartbeats 800000 in
theorem program_off (c bb : Nat) (pb : Nat → Nat) (M : Ch) (b p : Nat) (s : ByteArray) (w : World) (h : ChipIn w c bb pb M) (hb : b < M.nb) (hp : p < M.np) (hs : s.size = M.sz) (ho : M.off = true) :
    Calls Try.prog 15 #[.pointer (some ⟨c, 0, none⟩), .int .i64 (b : Int), .int .i64 (p : Int), .string s] w fun e w' => e = .returned (.int .i64 20) ∧ w = w' := by
  have C0 := Lib.hid h.c0
  have c2 := h.c2
  have B0 := Lib.hid (h.b0 hb)
  have C6 := Lib.hid (h.c6 ho)
  have B3 := Lib.hid (h.b3 hb rfl)
  have hnb := h.nb
  have hnp := h.np
  have hsz := h.sz
  have hne : ((s.size : Int) != (M.sz : Int)) = false := by rw [hs]; simp
  have hsm : s.size ≤ 2048 := by omega
  have HS := Lib.hid hs
  clear h hs ho
  go_enter Try.func15, Try.ntmps15
  go_wp2_with (first | (go_at_call 38; refine (page_in c bb M.nb b (pb b) M.np p _ hnb C0.out hb B0.out hnp hp).mono ?_; rintro e w' ⟨rfl, rfl⟩) | (go_at_call 31; refine (block_in c bb M.nb b _ hnb C0.out hb).mono ?_; rintro e w' ⟨rfl, rfl⟩) | (go_at_call 32; refine (refusal_off c bb b _ _ C6.out B3.out).mono ?_; rintro e w' ⟨rfl, rfl⟩))
  go_ret
  exact ⟨rfl, rfl⟩
set_option maxRecDepth 100000 in
set_option maxHeartbeats 800000 in
theorem program_worn (c bb : Nat) (pb : Nat → Nat) (M : Ch) (b p : Nat) (s : ByteArray) (w : World) (h : ChipIn w c bb pb M) (hb : b < M.nb) (hp : p < M.np) (hs : s.size = M.sz) (ho : M.off = false) (hw : (M.bk b).worn = true) :
    Calls Try.prog 15 #[.pointer (some ⟨c, 0, none⟩), .int .i64 (b : Int), .int .i64 (p : Int), .string s] w fun e w' => e = .returned (.int .i64 22) ∧ w = w' := by
  have C0 := Lib.hid h.c0
  have c2 := h.c2
  have B0 := Lib.hid (h.b0 hb)
  have C6 := Lib.hid (h.c6 ho)
  have B3 := Lib.hid (h.b3 hb hw)
  have hnb := h.nb
  have hnp := h.np
  have hsz := h.sz
  have hne : ((s.size : Int) != (M.sz : Int)) = false := by rw [hs]; simp
  have hsm : s.size ≤ 2048 := by omega
  have HS := Lib.hid hs
  clear h hs ho hw
  go_enter Try.func15, Try.ntmps15
  go_wp2_with (first | (go_at_call 38; refine (page_in c bb M.nb b (pb b) M.np p _ hnb C0.out hb B0.out hnp hp).mono ?_; rintro e w' ⟨rfl, rfl⟩) | (go_at_call 31; refine (block_in c bb M.nb b _ hnb C0.out hb).mono ?_; rintro e w' ⟨rfl, rfl⟩) | (go_at_call 32; refine (refusal_worn c bb b _ C6.out B3.out).mono ?_; rintro e w' ⟨rfl, rfl⟩))
  go_ret
  exact ⟨rfl, rfl⟩
set_option maxRecDepth 100000 in
set_option maxHeartbeats 800000 in
theorem program_order (c bb : Nat) (pb : Nat → Nat) (M : Ch) (b p : Nat) (s : ByteArray) (w : World) (h : ChipIn w c bb pb M) (hb : b < M.nb) (hp : p < M.np) (hs : s.size = M.sz) (ho : M.off = false) (hw : (M.bk b).worn = false) (hbl : blankFrom (M.bk b) M.np p = false) :
    Calls Try.prog 15 #[.pointer (some ⟨c, 0, none⟩), .int .i64 (b : Int), .int .i64 (p : Int), .string s] w fun e w' => e = .returned (.int .i64 21) ∧ Upd noBlock w w' := by
  have C0 := Lib.hid h.c0
  have c2 := h.c2
  have B0 := Lib.hid (h.b0 hb)
  have C6 := Lib.hid (h.c6 ho)
  have B3 := Lib.hid (h.b3 hb hw)
  have hnb := h.nb
  have hnp := h.np
  have hsz := h.sz
  have hne : ((s.size : Int) != (M.sz : Int)) = false := by rw [hs]; simp
  have hsm : s.size ≤ 2048 := by omega
  have HS := Lib.hid hs
  have BL : Hid (_) := Lib.hid (blankFrom_any bb b (pb b) M.np M.sz p (M.bk b) w B0.out (h.pgs b hb) hp hnp)
  rw [hbl] at BL
  clear h hs ho hw hbl
  go_enter Try.func15, Try.ntmps15
  go_wp2_with (first | (go_at_call 38; refine (page_in c bb M.nb b (pb b) M.np p _ hnb C0.out hb B0.out hnp hp).mono ?_; rintro e w' ⟨rfl, rfl⟩) | (go_at_call 31; refine (block_in c bb M.nb b _ hnb C0.out hb).mono ?_; rintro e w' ⟨rfl, rfl⟩) | (go_at_call 32; refine (refusal_ok c bb b _ C6.out B3.out).mono ?_; rintro e w' ⟨rfl, rfl⟩) | (go_at_call 39; refine BL.out.mono ?_; rintro e w1 ⟨rfl, hw1⟩))
  go_ret
  exact ⟨rfl, by assumption⟩

theorem change_way (c bb : Nat) (pb : Nat → Nat) (M : Ch) (w : World) (t : Bool) (ht : M.torn = t) (h : ChipIn w c bb pb M) (hoff : M.off = false) (hc : M.changes < 4611686018427387904) (hl : M.left ≤ 9223372036854775807) :
    Calls Try.prog 33 #[.pointer (some ⟨c, 0, none⟩)] w fun e w' => e = .returned (.bool t) ∧ ChipIn w' c bb pb M.changed ∧ Upd (oneBlock c) w w' := by
  rw [← ht]; exact change_any c bb pb M w h hoff hc hl
set_option maxRecDepth 100000 in
set_option maxHeartbeats 1600000 in
theorem program_ok (c bb : Nat) (pb : Nat → Nat) (M : Ch) (b p n : Nat) (s : ByteArray) (w : World) (h : ChipIn w c bb pb M) (hF : M.Fit n) (hn : n < 4611686018427387904) (hb : b < M.nb) (hp : p < M.np) (hs : s.size = M.sz) (ho : M.off = false) (hw : (M.bk b).worn = false) (hbl : blankFrom (M.bk b) M.np p = true) (ht : M.torn = false) :
    Calls Try.prog 15 #[.pointer (some ⟨c, 0, none⟩), .int .i64 (b : Int), .int .i64 (p : Int), .string s] w fun e w' => e = .returned (.int .i64 0) ∧ ChipIn w' c bb pb (M.changed.setBk b ((M.bk b).setPg p (((M.bk b).pg p).write s.data.toList))) ∧ Upd (Own c bb pb M.nb) w w' := by
  have C0 := Lib.hid h.c0
  have c2 := h.c2
  have B0 := Lib.hid (h.b0 hb)
  have C6 := Lib.hid (h.c6 ho)
  have B3 := Lib.hid (h.b3 hb hw)
  have hnb := h.nb
  have hnp := h.np
  have hsz := h.sz
  have hne : ((s.size : Int) != (M.sz : Int)) = false := by rw [hs]; simp
  have hsm : s.size ≤ 2048 := by omega
  have HS := Lib.hid hs
  have BL : Hid (_) := Lib.hid (blankFrom_any bb b (pb b) M.np M.sz p (M.bk b) w B0.out (h.pgs b hb) hp hnp)
  rw [hbl] at BL
  have H := Lib.hid h
  have HO := Lib.hid ho
  have HT := Lib.hid ht
  have hch : M.changes < 4611686018427387904 := Nat.lt_of_le_of_lt hF.changes hn
  have hle := hF.left
  clear h hs ho hw hbl ht hF
  go_enter Try.func15, Try.ntmps15
  go_wp2_with (first | (go_at_call 38; refine (page_in c bb M.nb b (pb b) M.np p _ hnb C0.out hb B0.out hnp hp).mono ?_; rintro e w' ⟨rfl, rfl⟩) | (go_at_call 31; refine (block_in c bb M.nb b _ hnb C0.out hb).mono ?_; rintro e w' ⟨rfl, rfl⟩) | (go_at_call 32; refine (refusal_ok c bb b _ C6.out B3.out).mono ?_; rintro e w' ⟨rfl, rfl⟩) | (go_at_call 39; refine BL.out.mono ?_; rintro e w1 ⟨rfl, hw1⟩; have HW1 := Lib.hid hw1; clear hw1) | (go_at_call 33; refine (change_way c bb pb M _ false HT.out (H.out.grow HW1.out) HO.out hch hle).mono ?_; rintro e w2 ⟨rfl, hw2, hu2⟩; have H2 := Lib.hid hw2; have U2 := Lib.hid hu2; have d0 := hw2.b0 hb; clear hw2 hu2) | (go_at_call 41; rw [show p * 3 = 3 * p by omega]; refine (write_any (pb b) M.np p (M.bk b) s _ hsm (by have := H2.out.pgs b hb; rw [HS.out]; exact this) hp).mono ?_; rintro e w3 ⟨rfl, hw3, hu3⟩; have H3 := Lib.hid hw3; have U3 := Lib.hid hu3; clear hw3 hu3))
  go_ret
  refine ⟨rfl, ?_, ((upd_own_0 HW1.out).trans (upd_own_c U2.out)).trans (upd_own hb U3.out)⟩
  have := H3.out
  rw [HS.out] at this
  exact H2.out.setPgs hb _ U3.out this
set_option maxRecDepth 100000 in
set_option maxHeartbeats 1600000 in
theorem program_torn (c bb : Nat) (pb : Nat → Nat) (M : Ch) (b p n : Nat) (s : ByteArray) (w : World) (h : ChipIn w c bb pb M) (hF : M.Fit n) (hn : n < 4611686018427387904) (hb : b < M.nb) (hp : p < M.np) (hs : s.size = M.sz) (ho : M.off = false) (hw : (M.bk b).worn = false) (hbl : blankFrom (M.bk b) M.np p = true) (ht : M.torn = true) :
    Calls Try.prog 15 #[.pointer (some ⟨c, 0, none⟩), .int .i64 (b : Int), .int .i64 (p : Int), .string s] w fun e w' => e = .returned (.int .i64 20) ∧ ChipIn w' c bb pb (M.changed.setBk b (tearP (M.bk b) p s.data.toList M.mode)) ∧ Upd (Own c bb pb M.nb) w w' := by
  have C0 := Lib.hid h.c0
  have c2 := h.c2
  have B0 := Lib.hid (h.b0 hb)
  have C6 := Lib.hid (h.c6 ho)
  have B3 := Lib.hid (h.b3 hb hw)
  have hnb := h.nb
  have hnp := h.np
  have hsz := h.sz
  have hne : ((s.size : Int) != (M.sz : Int)) = false := by rw [hs]; simp
  have hsm : s.size ≤ 2048 := by omega
  have HS := Lib.hid hs
  have BL : Hid (_) := Lib.hid (blankFrom_any bb b (pb b) M.np M.sz p (M.bk b) w B0.out (h.pgs b hb) hp hnp)
  rw [hbl] at BL
  have H := Lib.hid h
  have HO := Lib.hid ho
  have HT := Lib.hid ht
  have hch : M.changes < 4611686018427387904 := Nat.lt_of_le_of_lt hF.changes hn
  have hle := hF.left
  have hmo := hF.mode
  clear h hs ho hw hbl ht hF
  go_enter Try.func15, Try.ntmps15
  go_wp2_with (first | (go_at_call 38; refine (page_in c bb M.nb b (pb b) M.np p _ hnb C0.out hb B0.out hnp hp).mono ?_; rintro e w' ⟨rfl, rfl⟩) | (go_at_call 31; refine (block_in c bb M.nb b _ hnb C0.out hb).mono ?_; rintro e w' ⟨rfl, rfl⟩) | (go_at_call 32; refine (refusal_ok c bb b _ C6.out B3.out).mono ?_; rintro e w' ⟨rfl, rfl⟩) | (go_at_call 39; refine BL.out.mono ?_; rintro e w1 ⟨rfl, hw1⟩; have HW1 := Lib.hid hw1; clear hw1) | (go_at_call 33; refine (change_way c bb pb M _ true HT.out (H.out.grow HW1.out) HO.out hch hle).mono ?_; rintro e w2 ⟨rfl, hw2, hu2⟩; have H2 := Lib.hid hw2; have U2 := Lib.hid hu2; have D0 := Lib.hid (hw2.b0 hb); have d8 : w2.cell? ⟨c, 8, none⟩ = some (.int .i64 (M.mode : Int)) := hw2.c8; clear hw2 hu2) | (go_at_call 40; refine (tearP_any bb b (pb b) M.np p M.mode s (M.bk b) _ hsm D0.out (H2.out.bb_pb hb) (by have := H2.out.pgs b hb; rw [HS.out]; exact this) hp hnp hmo).mono ?_; rintro e w3 ⟨rfl, hw3, hu3⟩; have H3 := Lib.hid hw3; have U3 := Lib.hid hu3; clear hw3 hu3))
  go_ret
  refine ⟨rfl, ?_, ((upd_own_0 HW1.out).trans (upd_own_c U2.out)).trans (upd_own hb U3.out)⟩
  have := H3.out
  rw [HS.out] at this
  have := H2.out.setPgs hb _ U3.out this
  rw [← tearP_same]; exact this

/-- Program at a place that is there, with as many bytes as a page has -/
theorem program_in (c bb : Nat) (pb : Nat → Nat) (M : Ch) (b p n : Nat) (s : ByteArray) (w : World) (h : ChipIn w c bb pb M) (hF : M.Fit n) (hn : n < 4611686018427387904) (hb : b < M.nb) (hp : p < M.np) (hs : s.size = M.sz) :
    Calls Try.prog 15 #[.pointer (some ⟨c, 0, none⟩), .int .i64 (b : Int), .int .i64 (p : Int), .string s] w fun e w' => e = .returned (.int .i64 (M.progE b p)) ∧ ChipIn w' c bb pb (M.progM b p s.data.toList) ∧ Upd (Own c bb pb M.nb) w w' := by
  unfold Ch.progE Ch.progM
  cases ho : M.off
  · cases hw : (M.bk b).worn
    · cases hbl : blankFrom (M.bk b) M.np p
      · exact (program_order c bb pb M b p s w h hb hp hs ho hw hbl).mono fun e w' ⟨he, hu⟩ => ⟨he, h.grow hu, upd_own_0 hu⟩
      · cases ht : M.torn
        · exact program_ok c bb pb M b p n s w h hF hn hb hp hs ho hw hbl ht
        · exact program_torn c bb pb M b p n s w h hF hn hb hp hs ho hw hbl ht
    · refine (program_worn c bb pb M b p s w h hb hp hs ho hw).mono ?_
      rintro e w' ⟨he, rfl⟩
      exact ⟨he, h, Upd.refl _ _⟩
  · refine (program_off c bb pb M b p s w h hb hp hs ho).mono ?_
    rintro e w' ⟨he, rfl⟩
    exact ⟨he, h, Upd.refl _ _⟩
end Go.Proofs.Ytibkdoomnidndaa
