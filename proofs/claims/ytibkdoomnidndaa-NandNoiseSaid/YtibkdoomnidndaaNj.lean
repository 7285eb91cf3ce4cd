/- The law's look that the chip speaks; no chip. -/
import Derived.Test.YtibkdoomnidndaaNi
namespace Go.Proofs.Ytibkdoomnidndaa
open Go.RowKit

/-! numbers stay in their bounds -/
theorem Ch.Fit.mono {M : Ch} {n m : Nat} (h : M.Fit n) (hm : n ≤ m) : M.Fit m :=
  ⟨h.mode, h.left, Nat.le_trans h.changes hm, fun b => Nat.le_trans (h.er b) hm, fun b => Nat.le_trans (h.rd b) hm⟩
theorem newCh_fit (nb np sz : Nat) : (newCh nb np sz).Fit 0 := ⟨by show 0 < 8; omega, by show 0 ≤ _; omega, Nat.le_refl _, fun _ => Nat.le_refl _, fun _ => Nat.le_refl _⟩
theorem Ch.Fit.changed {M : Ch} {n : Nat} (h : M.Fit n) : M.changed.Fit (n + 1) :=
  ⟨h.mode, by have := h.left; show M.left - 1 ≤ _; omega, by have := h.changes; show M.changes + 1 ≤ _; omega, fun b => Nat.le_succ_of_le (h.er b), fun b => Nat.le_succ_of_le (h.rd b)⟩
theorem Ch.Fit.setBk {M : Ch} {n : Nat} (h : M.Fit n) (b : Nat) (B : Bk) (h1 : B.er ≤ n) (h2 : B.rd ≤ n) : (M.setBk b B).Fit n :=
  ⟨h.mode, h.left, h.changes, fun k => by
    show (if k = b then B else M.bk k).er ≤ n
    by_cases e : k = b
    · rw [if_pos e]; exact h1
    · rw [if_neg e]; exact h.er k, fun k => by
    show (if k = b then B else M.bk k).rd ≤ n
    by_cases e : k = b
    · rw [if_pos e]; exact h2
    · rw [if_neg e]; exact h.rd k⟩
theorem tearP_er (B : Bk) (p : Nat) (l : List UInt8) (m : Nat) : (tearP B p l m).er = B.er ∧ (tearP B p l m).rd = B.rd ∧ (tearP B p l m).worn = B.worn := by
  rw [← tearP_same]; exact ⟨rfl, rfl, rfl⟩
theorem Ch.Fit.prog {M : Ch} {n : Nat} (h : M.Fit n) (b p : Nat) (l : List UInt8) : (M.progM b p l).Fit (n + 1) := by
  have hm := h.mono (Nat.le_succ n)
  unfold Ch.progM
  split
  · exact hm
  · split
    · exact hm
    · split
      · split
        · exact h.changed.setBk b _ (by rw [(tearP_er _ _ _ _).1]; exact Nat.le_succ_of_le (h.er b)) (by rw [(tearP_er _ _ _ _).2.1]; exact Nat.le_succ_of_le (h.rd b))
        · exact h.changed.setBk b _ (Nat.le_succ_of_le (h.er b)) (Nat.le_succ_of_le (h.rd b))
      · exact hm
theorem Ch.Fit.erase {M : Ch} {n : Nat} (h : M.Fit n) (b : Nat) : (M.eraseM b).Fit (n + 1) := by
  have hm := h.mono (Nat.le_succ n)
  unfold Ch.eraseM
  split
  · exact hm
  · split
    · exact hm
    · split
      · exact h.changed.setBk b _ (by have := h.er b; show (M.bk b).er + 1 ≤ _; omega) (Nat.zero_le _)
      · exact h.changed.setBk b _ (by have := h.er b; show (M.bk b).er + 1 ≤ _; omega) (Nat.zero_le _)
theorem Ch.Fit.read {M : Ch} {n : Nat} (h : M.Fit n) (b : Nat) : (M.readM b).Fit (n + 1) :=
  (h.mono (Nat.le_succ n)).setBk b _ (Nat.le_succ_of_le (h.er b)) (by have := h.rd b; show (M.bk b).rd + 1 ≤ _; omega)
theorem Ch.Fit.spoil {M : Ch} {n : Nat} (h : M.Fit n) (b p : Nat) : (M.spoilM b p).Fit n := h.setBk b _ (h.er b) (h.rd b)
theorem Ch.Fit.wear {M : Ch} {n : Nat} (h : M.Fit n) (b : Nat) : (M.wearM b).Fit n := h.setBk b _ (h.er b) (h.rd b)
theorem Ch.Fit.cut {M : Ch} {n : Nat} (h : M.Fit n) (a m : Int) (ha : a ≤ 9223372036854775807) : (M.cutM a m).Fit n :=
  ⟨Nat.mod_lt _ (by decide), by show (max a 1).toNat ≤ _; omega, h.changes, h.er, h.rd⟩
theorem Ch.Fit.on {M : Ch} {n : Nat} (h : M.Fit n) : M.onM.Fit n := ⟨h.mode, Nat.zero_le _, h.changes, h.er, h.rd⟩
theorem Ch.Fit.noise {M : Ch} {n : Nat} (h : M.Fit n) (s m p : Int) : (M.noiseM s m p).Fit n := ⟨h.mode, h.left, h.changes, h.er, h.rd⟩

/-- a chip whose blocks are new -/
def NewC (nb np sz : Nat) (w w' : World) (e : Ending) : Prop :=
  ∃ c bb pb, e = .returned (.tuple #[.pointer (some ⟨c, 0, none⟩), .int .i64 0]) ∧ ChipIn w' c bb pb (newCh nb np sz) ∧ Upd noBlock w w' ∧ ∀ k, Own c bb pb nb k → w.heap.size ≤ k
theorem upd_new {w a a' : World} {c bb nb : Nat} {pb : Nat → Nat} (h : Upd noBlock w a) (k : Upd (Own c bb pb nb) a a') (hB : ∀ k, Own c bb pb nb k → w.heap.size ≤ k) : Upd noBlock w a' :=
  h.step k fun i hi ho => absurd (hB i ho) (by omega)
theorem upd_new_c {w a a' : World} {c bb nb : Nat} {pb : Nat → Nat} (h : Upd noBlock w a) (k : Upd (oneBlock c) a a') (hB : ∀ k, Own c bb pb nb k → w.heap.size ≤ k) : Upd noBlock w a' :=
  upd_new h (upd_own_c k) hB
theorem new_at (nb np sz : Nat) (x y z : Int) (hx : x = (nb : Int)) (hy : y = (np : Int)) (hz : z = (sz : Int)) (w : World) (h1 : 1 ≤ nb) (h2 : nb ≤ 64) (h3 : 4 ≤ np) (h4 : np ≤ 64) (h5 : np % 4 = 0) (h6 : 1 ≤ sz) (h7 : sz ≤ 2048) :
    Calls Try.prog 11 #[.int .i64 x, .int .i64 y, .int .i64 z] w fun e w' => NewC nb np sz w w' e := by
  subst hx hy hz
  refine (new_any nb np sz w h1 h2 h3 h4 h5 h6 h7).mono ?_
  rintro e w' ⟨he, hc, hu⟩
  refine ⟨_, _, _, he, hc, hu, ?_⟩
  rintro k (rfl | rfl | ⟨b, _, rfl⟩)
  · omega
  · omega
  · show w.heap.size ≤ w.heap.size + 2 + b; omega
theorem program_at (c bb : Nat) (pb : Nat → Nat) (M : Ch) (x y : Int) (b p n : Nat) (hx : x = (b : Int)) (hy : y = (p : Int)) (s : ByteArray) (l : List UInt8) (hl : l = s.data.toList) (r : Int) (hr : r = M.progE b p) (w : World) (h : ChipIn w c bb pb M) (hF : M.Fit n) (hn : n < 4611686018427387904) (hb : b < M.nb) (hp : p < M.np) (hs : s.size = M.sz) :
    Calls Try.prog 15 #[.pointer (some ⟨c, 0, none⟩), .int .i64 x, .int .i64 y, .string s] w fun e w' => e = .returned (.int .i64 r) ∧ ChipIn w' c bb pb (M.progM b p l) ∧ Upd (Own c bb pb M.nb) w w' := by
  subst hx hy hl hr; exact program_in c bb pb M b p n s w h hF hn hb hp hs
theorem shown_2 {M : Ch} (b p : Nat) (q : Nat) (hp : p < M.np) (hs : ((M.bk b).pg p).st = 2) (hz : M.sz ≤ 2048) (w1 : World) (h : PgsIn w1 q M.np M.sz (M.bk b)) :
    Calls Try.prog 43 #[.pointer (some ⟨q, 3 * p, none⟩), .int .i64 (M.sz : Int)] w1 fun e w2 => ShowsW w1 w2 e (List.replicate M.sz 0) :=
  shown_spoilt q M.np M.sz p (M.bk b) w1 h hp hs M.sz hz
theorem read_at (c bb : Nat) (pb : Nat → Nat) (M : Ch) (x y : Int) (b p n : Nat) (hx : x = (b : Int)) (hy : y = (p : Int)) (l : List UInt8) (s : ByteArray) (hsl : s = ⟨l.toArray⟩) (w : World) (h : ChipIn w c bb pb M) (hF : M.Fit n) (hn : n < 4611686018427387904) (hb : b < M.nb) (hp : p < M.np) (ho : M.off = false) (hq : M.most < 1 ∨ M.piece < 1)
    (hs : ∀ w1, PgsIn w1 (pb b) M.np M.sz (M.bk b) → Calls Try.prog 43 #[.pointer (some ⟨pb b, 3 * p, none⟩), .int .i64 (M.sz : Int)] w1 fun e w2 => ShowsW w1 w2 e l) :
    Calls Try.prog 17 #[.pointer (some ⟨c, 0, none⟩), .int .i64 x, .int .i64 y] w fun e w' => e = .returned (.tuple #[.string s, .int .i64 0]) ∧ ChipIn w' c bb pb (M.readM b) ∧ Upd (Own c bb pb M.nb) w w' := by
  subst hx hy hsl; exact read_quiet c bb pb M b p n l w h hF hn hb hp ho hq hs
theorem off_at (c bb : Nat) (pb : Nat → Nat) (M : Ch) (o : Bool) (ho : M.off = o) (w : World) (h : ChipIn w c bb pb M) :
    Calls Try.prog 26 #[.pointer (some ⟨c, 0, none⟩)] w fun e w' => e = .returned (.bool o) ∧ w = w' := by
  subst ho; exact off_any c bb pb M w h

def sp1 : Ch := (newCh 1 4 2).progM 0 0 [97, 98]
def sp2 : Ch := sp1.cutM 1 4
def sp3 : Ch := sp2.progM 0 2 [99, 100]
def sp4 : Ch := sp3.onM
theorem sp_e1 : (0 : Int) = (newCh 1 4 2).progE 0 0 := by decide
theorem sp_e2 : (20 : Int) = sp2.progE 0 2 := by decide
theorem sp_o3 : sp3.off = true := by decide
theorem sp_o4 : sp4.off = false := by decide
theorem sp_m4 : sp4.most < 1 := by decide
theorem sp_s4 : ((sp4.bk 0).pg 0).st = 2 := by decide
theorem sp_n1 : 0 < (newCh 1 4 2).nb ∧ 0 < (newCh 1 4 2).np ∧ 2 = (newCh 1 4 2).sz := by decide
theorem sp_n2 : 0 < sp2.nb ∧ 2 < sp2.np ∧ 2 = sp2.sz := by decide
theorem sp_n4 : 0 < sp4.nb ∧ 0 < sp4.np ∧ sp4.sz = 2 := by decide
theorem sp_p1 (c bb : Nat) (pb : Nat → Nat) (w : World) (h : ChipIn w c bb pb (newCh 1 4 2)) :
    Calls Try.prog 15 #[.pointer (some ⟨c, 0, none⟩), .int .i64 0, .int .i64 0, .string ⟨#[97, 98]⟩] w fun e w' => e = .returned (.int .i64 0) ∧ ChipIn w' c bb pb sp1 ∧ Upd (Own c bb pb 1) w w' :=
  program_at c bb pb (newCh 1 4 2) 0 0 0 0 0 rfl rfl ⟨#[97, 98]⟩ [97, 98] rfl 0 sp_e1 w h (newCh_fit 1 4 2) (by omega) sp_n1.1 sp_n1.2.1 sp_n1.2.2
theorem sp_f1 : sp1.Fit 1 := (newCh_fit 1 4 2).prog 0 0 _
theorem sp_f2 : sp2.Fit 1 := sp_f1.cut 1 4 (by decide)
theorem sp_f4 : sp4.Fit 2 := (sp_f2.prog 0 2 _).on
theorem sp_p2 (c bb : Nat) (pb : Nat → Nat) (w : World) (h : ChipIn w c bb pb sp2) :
    Calls Try.prog 15 #[.pointer (some ⟨c, 0, none⟩), .int .i64 0, .int .i64 2, .string ⟨#[99, 100]⟩] w fun e w' => e = .returned (.int .i64 20) ∧ ChipIn w' c bb pb sp3 ∧ Upd (Own c bb pb 1) w w' :=
  program_at c bb pb sp2 0 2 0 2 1 rfl rfl ⟨#[99, 100]⟩ [99, 100] rfl 20 sp_e2 w h sp_f2 (by omega) sp_n2.1 sp_n2.2.1 sp_n2.2.2
theorem sp_r (c bb : Nat) (pb : Nat → Nat) (w : World) (h : ChipIn w c bb pb sp4) :
    Calls Try.prog 17 #[.pointer (some ⟨c, 0, none⟩), .int .i64 0, .int .i64 0] w fun e w' => e = .returned (.tuple #[.string ⟨#[0, 0]⟩, .int .i64 0]) ∧ ChipIn w' c bb pb (sp4.readM 0) ∧ Upd (Own c bb pb 1) w w' :=
  read_at c bb pb sp4 0 0 0 0 2 rfl rfl [0, 0] ⟨#[0, 0]⟩ rfl w h sp_f4 (by omega) sp_n4.1 sp_n4.2.1 sp_o4 (.inl sp_m4) (fun w1 h => by
    have := shown_2 (M := sp4) 0 0 (pb 0) sp_n4.2.1 sp_s4 (by rw [sp_n4.2.2]; omega) w1 h
    rw [sp_n4.2.2] at this ⊢
    exact this)
set_option maxRecDepth 100000 in
set_option maxHeartbeats 1600000 in
theorem speaks_any (w : World) : Calls Try.prog 10 #[] w fun e w' => e = .returned (.bool true) ∧ Upd noBlock w w' := by
  have HN := Lib.hid (new_at 1 4 2 1 4 2 rfl rfl rfl w (by omega) (by omega) (by omega) (by omega) (by omega) (by omega) (by omega))
  go_enter Try.func10, Try.ntmps10
  go_wp2_with (first | (go_at_call 11; refine HN.out.mono ?_; rintro e w1 ⟨c, bb, pb, rfl, h1, u1, hB⟩; have H1 := Lib.hid h1; have U1 := Lib.hid u1; have HB := Lib.hid hB; clear h1 u1 hB) | (go_at_call 15; ((with_reducible refine (sp_p1 c bb pb _ H1.out).mono ?_); rintro e w2 ⟨rfl, h2, u2⟩; have H2 := Lib.hid h2; have U2 := Lib.hid u2; clear h2 u2)) | (go_at_call 23; ((with_reducible refine (cut_any c bb pb sp1 1 4 _ H2.out (by omega) (by omega) (by omega)).mono ?_); rintro e w3 ⟨rfl, h3, u3⟩; have H3 := Lib.hid h3; have U3 := Lib.hid u3; clear h3 u3)) | (go_at_call 15; ((with_reducible refine (sp_p2 c bb pb _ H3.out).mono ?_); rintro e w4 ⟨rfl, h4, u4⟩; have H4 := Lib.hid h4; have U4 := Lib.hid u4; clear h4 u4)) | (go_at_call 26; ((with_reducible refine (off_at c bb pb sp3 true sp_o3 _ H4.out).mono ?_); rintro e w5 ⟨rfl, rfl⟩)) | (go_at_call 24; ((with_reducible refine (on_any c bb pb sp3 _ H4.out).mono ?_); rintro e w5 ⟨rfl, h5, u5⟩; have H5 := Lib.hid h5; have U5 := Lib.hid u5; clear h5 u5)) | (go_at_call 17; ((with_reducible refine (sp_r c bb pb _ H5.out).mono ?_); rintro e w6 ⟨rfl, h6, u6⟩; have U6 := Lib.hid u6; clear h6 u6)))
  go_ret
  exact ⟨rfl, upd_new (upd_new_c (upd_new (upd_new_c (upd_new U1.out U2.out HB.out) U3.out HB.out) U4.out HB.out) U5.out HB.out) U6.out HB.out⟩
end Go.Proofs.Ytibkdoomnidndaa
