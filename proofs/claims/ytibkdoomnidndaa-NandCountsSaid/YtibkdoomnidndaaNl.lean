/- NandCounts walked. -/
import Derived.Test.YtibkdoomnidndaaNk
namespace Go.Proofs.Ytibkdoomnidndaa
open Go.RowKit

/-- the chip of the law: f b erases of block b, n changes, k pages written in block 1 -/
structure CSt (M : Ch) (f : Nat → Nat) (n k : Nat) : Prop where
  nb : M.nb = 4
  np : M.np = 8
  sz : M.sz = 1
  off : M.off = false
  left : M.left = 0
  changes : M.changes = n
  fit : M.Fit n
  er : ∀ b, b < 4 → (M.bk b).er = f b
  rd : ∀ b, (M.bk b).rd = 0
  worn : ∀ b, (M.bk b).worn = false
  blank : ∀ p, k ≤ p → (M.bk 1).pg p = pg0
  done : ∀ p, p < k → ((M.bk 1).pg p).st = 1
theorem CSt.new : CSt (newCh 4 8 1) (fun _ => 0) 0 0 := ⟨rfl, rfl, rfl, rfl, rfl, rfl, newCh_fit _ _ _, fun _ _ => rfl, fun _ => rfl, fun _ => rfl, fun _ _ => rfl, fun _ h => absurd h (Nat.not_lt_zero _)⟩
theorem CSt.erase {M : Ch} {f : Nat → Nat} {n : Nat} (h : CSt M f n 0) (b : Nat) : M.eraseE b = 0 ∧ CSt (M.eraseM b) (fun k => if k = b then f b + 1 else f k) (n + 1) 0 ∨ 4 ≤ b := by
  by_cases hb : b < 4
  · left
    have ht : M.torn = false := by unfold Ch.torn; rw [h.left]; rfl
    have hm : M.eraseM b = M.changed.setBk b ((M.bk b).counted.allPg fun _ => pg0) := by
      unfold Ch.eraseM; simp [h.off, h.worn b, ht]
    have hf := h.fit.erase b
    refine ⟨by unfold Ch.eraseE; simp [h.off, h.worn b, ht], ?_⟩
    rw [hm] at hf ⊢
    refine ⟨h.nb, h.np, h.sz, ?_, ?_, ?_, hf, fun k hk => ?_, fun k => ?_, fun k => ?_, fun p hp => ?_, fun p hp => absurd hp (Nat.not_lt_zero _)⟩
    · show (M.left == 1) = false; rw [h.left]; rfl
    · show M.left - 1 = 0; rw [h.left]
    · show M.changes + 1 = _; rw [h.changes]
    · show (if k = b then _ else M.bk k).er = _
      by_cases e : k = b
      · subst e; simp only [if_true]; show (M.bk k).er + 1 = _; rw [h.er k hk]
      · simp only [if_neg e]; exact h.er k hk
    · show (if k = b then _ else M.bk k).rd = _
      by_cases e : k = b
      · simp only [if_pos e]; rfl
      · simp only [if_neg e]; exact h.rd k
    · show (if k = b then _ else M.bk k).worn = _
      by_cases e : k = b
      · simp only [if_pos e]; exact h.worn b
      · simp only [if_neg e]; exact h.worn k
    · show (if 1 = b then _ else M.bk 1).pg p = _
      by_cases e : 1 = b
      · simp only [if_pos e]; rfl
      · simp only [if_neg e]; exact h.blank p hp
  · right; omega
theorem CSt.blank1 {M : Ch} {f : Nat → Nat} {n k : Nat} (h : CSt M f n k) : blankFrom (M.bk 1) M.np k = true :=
  blank_yes fun r hr _ => by rw [h.blank r hr]; rfl
theorem CSt.prog {M : Ch} {f : Nat → Nat} {n k : Nat} (h : CSt M f n k) (l : List UInt8) : M.progE 1 k = 0 ∧ CSt (M.progM 1 k l) f (n + 1) (k + 1) := by
  have ht : M.torn = false := by unfold Ch.torn; rw [h.left]; rfl
  have hm : M.progM 1 k l = M.changed.setBk 1 ((M.bk 1).setPg k (((M.bk 1).pg k).write l)) := by
    unfold Ch.progM; simp [h.off, h.worn 1, ht, h.blank1]
  have hf := h.fit.prog 1 k l
  refine ⟨by unfold Ch.progE; simp [h.off, h.worn 1, ht, h.blank1], ?_⟩
  rw [hm] at hf ⊢
  refine ⟨h.nb, h.np, h.sz, ?_, ?_, ?_, hf, fun b hb => ?_, fun b => ?_, fun b => ?_, fun p hp => ?_, fun p hp => ?_⟩
  · show (M.left == 1) = false; rw [h.left]; rfl
  · show M.left - 1 = 0; rw [h.left]
  · show M.changes + 1 = _; rw [h.changes]
  · show (if b = 1 then _ else M.bk b).er = _
    by_cases e : b = 1
    · subst e; simp only [if_true]; exact h.er 1 hb
    · simp only [if_neg e]; exact h.er b hb
  · show (if b = 1 then _ else M.bk b).rd = _
    by_cases e : b = 1
    · simp only [if_pos e]; exact h.rd 1
    · simp only [if_neg e]; exact h.rd b
  · show (if b = 1 then _ else M.bk b).worn = _
    by_cases e : b = 1
    · simp only [if_pos e]; exact h.worn 1
    · simp only [if_neg e]; exact h.worn b
  · show (if p = k then _ else (M.bk 1).pg p) = _
    rw [if_neg (by omega)]; exact h.blank p (by omega)
  · show (if p = k then _ else (M.bk 1).pg p).st = 1
    by_cases e : p = k
    · rw [if_pos e]; rfl
    · rw [if_neg e]; exact h.done p (by omega)
theorem CSt.order {M : Ch} {f : Nat → Nat} {n k : Nat} (h : CSt M f n k) (hk : 0 < k) : M.progE 1 0 = 21 := by
  have hb : blankFrom (M.bk 1) M.np 0 = false := blank_no (r := 0) (Nat.le_refl _) (by rw [h.np]; omega) (by simp [Pg.blank, h.done 0 hk])
  unfold Ch.progE; simp [h.off, h.worn 1, hb]

theorem erase_way (c bb : Nat) (pb : Nat → Nat) (M : Ch) (f : Nat → Nat) (n b : Nat) (w : World) (h : ChipIn w c bb pb M) (hC : CSt M f n 0) (hn : n < 4611686018427387904) (hb : b < 4) :
    Calls Try.prog 13 #[.pointer (some ⟨c, 0, none⟩), .int .i64 (b : Int)] w fun e w' => e = .returned (.int .i64 0) ∧ ChipIn w' c bb pb (M.eraseM b) ∧ Upd (Own c bb pb 4) w w' := by
  have := erase_in c bb pb M b n w h hC.fit hn (by rw [hC.nb]; exact hb) (by rw [hC.np]; omega)
  rcases hC.erase b with ⟨he, _⟩ | hh
  · rw [he, hC.nb] at this; exact this
  · omega
theorem prog_way (c bb : Nat) (pb : Nat → Nat) (M : Ch) (f : Nat → Nat) (n k : Nat) (w : World) (h : ChipIn w c bb pb M) (hC : CSt M f n k) (hn : n < 4611686018427387904) (hk : k < 8) :
    Calls Try.prog 15 #[.pointer (some ⟨c, 0, none⟩), .int .i64 1, .int .i64 (k : Int), .string ⟨#[97]⟩] w fun e w' => e = .returned (.int .i64 0) ∧ ChipIn w' c bb pb (M.progM 1 k [97]) ∧ Upd (Own c bb pb 4) w w' := by
  have := program_at c bb pb M 1 (k : Int) 1 k n rfl rfl ⟨#[97]⟩ [97] rfl 0 (hC.prog [97]).1.symm w h hC.fit hn (by rw [hC.nb]; omega) (by rw [hC.np]; exact hk) (by rw [hC.sz]; rfl)
  rw [hC.nb] at this; exact this
theorem prog_again (c bb : Nat) (pb : Nat → Nat) (M : Ch) (f : Nat → Nat) (n k : Nat) (w : World) (h : ChipIn w c bb pb M) (hC : CSt M f n k) (hn : n < 4611686018427387904) (r : Int) (hr : r = if 0 < k then 21 else 0) :
    Calls Try.prog 15 #[.pointer (some ⟨c, 0, none⟩), .int .i64 1, .int .i64 0, .string ⟨#[97]⟩] w fun e w' => e = .returned (.int .i64 r) ∧ Upd (Own c bb pb 4) w w' := by
  have hr' : r = M.progE 1 0 := by
    by_cases e : 0 < k
    · rw [if_pos e] at hr; rw [hr, hC.order e]
    · rw [if_neg e] at hr
      obtain rfl : k = 0 := by omega
      rw [hr, (hC.prog [97]).1]
  have := program_at c bb pb M 1 0 1 0 n rfl rfl ⟨#[97]⟩ [97] rfl r hr' w h hC.fit hn (by rw [hC.nb]; omega) (by rw [hC.np]; omega) (by rw [hC.sz]; rfl)
  rw [hC.nb] at this
  exact this.mono fun e w' ⟨h1, _, h3⟩ => ⟨h1, h3⟩
theorem counts_way (c bb : Nat) (pb : Nat → Nat) (M : Ch) (f : Nat → Nat) (n k b : Nat) (w : World) (h : ChipIn w c bb pb M) (hC : CSt M f n k) (hb : b < 4) :
    Calls Try.prog 28 #[.pointer (some ⟨c, 0, none⟩), .int .i64 (b : Int)] w fun e w' => e = .returned (.tuple #[.int .i64 (f b : Int), .int .i64 0]) ∧ ∃ k, w' = w.drewN k := by
  have := counts_in c bb pb M b w h (by rw [hC.nb]; exact hb)
  rw [hC.er b hb, hC.rd b] at this
  exact this
theorem changes_way (c bb : Nat) (pb : Nat → Nat) (M : Ch) (f : Nat → Nat) (n k : Nat) (w : World) (h : ChipIn w c bb pb M) (hC : CSt M f n k) :
    Calls Try.prog 27 #[.pointer (some ⟨c, 0, none⟩)] w fun e w' => e = .returned (.int .i64 (n : Int)) ∧ w = w' := by
  have := changes_any c bb pb M w h
  rw [hC.changes] at this
  exact this

/-- the law's memory: the chip and the numbers wanted -/
def LawIn (w wr : World) (c bb : Nat) (pb : Nat → Nat) (g : Nat) (M : Ch) (f : Nat → Nat) : Prop :=
  ChipIn wr c bb pb M ∧ wr.rowIs g 62 4 (fun i => .int .i64 (f i : Int)) ∧ Upd noBlock w wr
theorem LawIn.own {w wr wr' : World} {c bb g nb : Nat} {pb : Nat → Nat} {M M' : Ch} {f : Nat → Nat} (h : LawIn w wr c bb pb g M f) (hc : ChipIn wr' c bb pb M') (hu : Upd (Own c bb pb nb) wr wr') (hnb : M.nb = nb) (hB : ∀ k, Own c bb pb nb k → w.heap.size ≤ k) : LawIn w wr' c bb pb g M' f := by
  refine ⟨hc, row_upd h.2.1 hu ?_, upd_new h.2.2 hu hB⟩
  subst hnb
  obtain ⟨x, hx⟩ := row_block h.2.1
  rintro (rfl | rfl | ⟨b, hb, rfl⟩)
  · exact apart hx h.1.top (by decide) rfl
  · obtain ⟨y, hy⟩ := row_block h.1.blks
    exact apart hx hy (by decide) rfl
  · obtain ⟨y, hy⟩ := (h.1.pgs b hb).block
    exact apart hx hy (by decide) rfl
theorem LawIn.put {w wr : World} {c bb g : Nat} {pb : Nat → Nat} {M : Ch} {f : Nat → Nat} (h : LawIn w wr c bb pb g M f) (hg : w.heap.size ≤ g) (b v : Nat) : LawIn w (wr.setCell ⟨g, b, none⟩ (.int .i64 (v : Int))) c bb pb g M (fun k => if k = b then v else f k) := by
  have hu : Upd (oneBlock g) wr (wr.setCell ⟨g, b, none⟩ (.int .i64 (v : Int))) := (Upd.refl (oneBlock g) wr).setCell (p := ⟨g, b, none⟩) (.inl rfl) _
  obtain ⟨x, hx⟩ := row_block h.2.1
  refine ⟨h.1.upd hu ?_ ?_, (h.2.1.set b _).congr fun i _ => ?_, h.2.2.setCell (p := ⟨g, b, none⟩) (.inr hg) _⟩
  · rintro k (rfl | rfl | ⟨b, hb, rfl⟩) e
    · exact apart hx h.1.top (by decide) (Eq.symm e)
    · obtain ⟨y, hy⟩ := row_block h.1.blks
      exact apart hx hy (by decide) (Eq.symm e)
    · obtain ⟨y, hy⟩ := (h.1.pgs b hb).block
      exact apart hx hy (by decide) (Eq.symm e)
  · intro k y z hk e
    exact apart hk hx (by decide) e
  · by_cases e : i = b
    · simp [e]
    · simp [e]
theorem LawIn.drewN {w wr : World} {c bb g : Nat} {pb : Nat → Nat} {M : Ch} {f : Nat → Nat} (h : LawIn w wr c bb pb g M f) (n : Nat) : LawIn w (wr.drewN n) c bb pb g M f := ⟨h.1.drewN n, h.2.1, h.2.2.drewN n⟩

set_option maxRecDepth 100000 in
set_option maxHeartbeats 3200000 in
theorem counts_ok (a : Option Addr) (len cap : Nat) (zs : List Int) (P : Nat) (hP : P ≤ 8) (w : World) (wa : IsRow .i64 w a len cap zs) :
    Calls Try.prog 9 #[.slice a len cap, .int .i64 (P : Int)] w fun e w' => e = .returned (.bool true) ∧ Below w.heap.size w w' := by
  obtain ⟨hI, hlen⟩ := wa.ints
  have HI := Lib.hid hI
  clear wa hI
  unfold maxLen at hlen
  have p1 : decide ((P : Int) < 0) = false := decide_eq_false (by omega)
  have p2 : decide (8 < (P : Int)) = false := decide_eq_false (by omega)
  go_enter Try.func9, Try.ntmps9
  go_wp2_with (first | (go_at_call 10; refine (speaks_any _).mono ?_; rintro e w0 ⟨rfl, u0⟩; have U0 := Lib.hid u0; clear u0) | (go_at_call 11; refine (new_at 4 8 1 4 8 1 rfl rfl rfl _ (by omega) (by omega) (by omega) (by omega) (by omega) (by omega) (by omega)).mono ?_; rintro e w1 ⟨c, bb, pb, rfl, h1, u1, hB⟩; have H1 := Lib.hid h1; have U1 := Lib.hid u1; have HB := Lib.hid hB; clear h1 u1 hB))
  obtain ⟨g, hg⟩ : ∃ g, g = w1.heap.size := ⟨_, rfl⟩
  have HG := Lib.hid hg
  rw [← hg]
  have hgw : Hid (w.heap.size ≤ g) := Lib.hid (by rw [hg]; exact Nat.le_trans U0.out.size U1.out.size)
  have HB' : Hid (∀ k, Own c bb pb 4 k → w.heap.size ≤ k) := Lib.hid (fun k hk => Nat.le_trans U0.out.size (HB.out k hk))
  have HS : Hid (LawIn w (w1.alloc (.cells #[.int .i64 0, .int .i64 0, .int .i64 0, .int .i64 0] 62)) c bb pb g (newCh 4 8 1) (fun _ => 0)) := Lib.hid (by
    refine ⟨H1.out.grow ((Upd.refl noBlock w1).alloc _), ⟨_, by rw [hg]; exact heap_alloc_new _ _, rfl, fun i hi => ?_⟩, (U0.out.trans U1.out).alloc _⟩
    have : i = 0 ∨ i = 1 ∨ i = 2 ∨ i = 3 := by omega
    rcases this with rfl | rfl | rfl | rfl <;> rfl)
  clear hg HG H1 U1
  go_loopw [8, 9] (fun n i wr => ∃ (k : Nat) (M : Ch) (f : Nat → Nat), k ≤ len ∧ k ≤ 100 ∧ n = .int .i64 (k : Int) ∧ i = .int .i64 (k : Int) ∧ Hid (CSt M f k 0) ∧ Hid (LawIn w wr c bb pb g M f)) (fun _ i _ => 100 - (intOf i).toNat)
  case atStart => exact ⟨0, newCh 4 8 1, fun _ => 0, Nat.zero_le _, Nat.zero_le _, rfl, rfl, Lib.hid CSt.new, HS⟩
  case round =>
    obtain ⟨k, M, f, hk, hk100, rfl, rfl, hC, hL⟩ := hrel
    have HCh : Hid (ChipIn wr c bb pb M) := Lib.hid hL.out.1
    by_cases hlt : k < len ∧ k < 100
    · obtain ⟨hl1, hl2⟩ := hlt
      obtain ⟨ga, off, ha, _, hcell⟩ := (HI.out.grow hL.out.2.2 (Nat.le_refl _)).cell (by omega)
      subst ha
      have ck := hcell k hl1
      clear hcell
      obtain ⟨x, hx⟩ : ∃ x, x = (zs.take len).getD k 0 := ⟨_, rfl⟩
      rw [← hx] at ck
      obtain ⟨b, hb⟩ : ∃ b : Nat, b = (x % 4).toNat := ⟨_, rfl⟩
      have hb4 : b < 4 := by omega
      have hand : bits .and .i64 x 3 = (b : Int) := (i64_mask x 2 (by omega)).trans (by rw [hb]; show x % 4 = _; omega)
      clear hx hb
      have hfb : f b ≤ 100 := by have := hC.out.fit.er b; rw [hC.out.er b hb4] at this; omega
      have d2 : decide ((k : Int) < 100) = true := decide_eq_true (by omega)
      go_wp2_with (first | (go_at_call 13; ((with_reducible refine (erase_way c bb pb M f k b _ HCh.out hC.out (by omega) hb4).mono ?_); rintro e w2 ⟨rfl, h2, u2⟩; have HL2 : Hid (LawIn w w2 c bb pb g (M.eraseM b) f) := Lib.hid (hL.out.own h2 u2 hC.out.nb HB'.out); have cw := HL2.out.2.1.cell (i := b) hb4; have fw := HL2.out.2.1.frozen b; clear h2 u2)))
      go_roundw
      case rel => exact ⟨k + 1, M.eraseM b, fun j => if j = b then f b + 1 else f j, by omega, by omega, by go_num, by go_num, Lib.hid (by
        rcases hC.out.erase b with ⟨_, h⟩ | h
        · exact h
        · omega), Lib.hid (HL2.out.put hgw.out b (f b + 1))⟩
      case measure => simp [intOf]; omega
    · have hways : (decide (k < len) = true ∧ decide ((k : Int) < 100) = false) ∨ decide (k < len) = false := by
        by_cases e : k < len
        · left; exact ⟨decide_eq_true e, decide_eq_false (by omega)⟩
        · right; exact decide_eq_false e
      have hkB : k ≤ 100 := hk100
      clear hlt hk100 HI
      rcases hways with ⟨hw1, hw2⟩ | hw1
      all_goals
        go_wp2
        go_loopw [8, 11] (fun n i wr => ∃ (j : Nat) (M' : Ch), j ≤ P ∧ n = .int .i64 ((k + j : Nat) : Int) ∧ i = .int .i64 (j : Int) ∧ Hid (CSt M' f (k + j) j) ∧ Hid (LawIn w wr c bb pb g M' f)) (fun _ i _ => P - (intOf i).toNat)
        case atStart => exact ⟨0, M, Nat.zero_le _, rfl, rfl, hC, hL⟩
        case round =>
          obtain ⟨j, M', hj, rfl, rfl, hC', hL'⟩ := hrel
          have HCh : Hid (ChipIn _ c bb pb M') := Lib.hid hL'.out.1
          by_cases hlt : j < P
          · skip
            go_wp2_with (first | (go_at_call 15; ((with_reducible refine (prog_way c bb pb M' f (k + j) j _ HCh.out hC'.out (by omega) (by omega)).mono ?_); rintro e w2 ⟨rfl, h2, u2⟩; have HL2 : Hid (LawIn w w2 c bb pb g (M'.progM 1 j [97]) f) := Lib.hid (hL'.out.own h2 u2 hC'.out.nb HB'.out); clear h2 u2)))
            go_roundw
            case rel => exact ⟨j + 1, M'.progM 1 j [97], by omega, by go_num, by go_num, Lib.hid (hC'.out.prog [97]).2, HL2⟩
            case measure => simp [intOf]; omega
          · have d5 : decide (j < P) = false := decide_eq_false hlt
            have hjP : j = P := by omega
            subst hjP
            clear hlt hj
            obtain ⟨N, hN⟩ : ∃ N, N = k + j := ⟨_, rfl⟩
            rw [← hN] at hC' ⊢
            have hNb : N ≤ 1000 := by omega
            clear hN
            go_wp2
            go_loopw [12, 13] (fun i _ wr => ∃ (q : Nat), q ≤ 4 ∧ i = .int .i64 (q : Int) ∧ Hid (LawIn w wr c bb pb g M' f)) (fun i _ _ => 4 - (intOf i).toNat)
            case atStart => exact ⟨0, Nat.zero_le _, rfl, hL'⟩
            case round =>
              obtain ⟨q, hq, rfl, hL3⟩ := hrel
              have HCh : Hid (ChipIn _ c bb pb M') := Lib.hid hL3.out.1
              by_cases hlt : q < 4
              · have d3 : decide ((q : Int) < 4) = true := decide_eq_true (by omega)
                go_wp2_with (first | (go_at_call 28; ((with_reducible refine (counts_way c bb pb M' f _ _ q _ HCh.out hC'.out hlt).mono ?_); rintro e w3 ⟨rfl, kd, rfl⟩; have HL4 := Lib.hid (hL3.out.drewN kd); have cw := HL4.out.2.1.cell (i := q) hlt)))
                go_roundw
                case rel => exact ⟨q + 1, by omega, by go_num, HL4⟩
                case measure => simp [intOf]; omega
              · have d3 : decide ((q : Int) < 4) = false := decide_eq_false (by omega)
                obtain ⟨R, hR⟩ : ∃ R : Int, R = if 0 < j then 21 else 0 := ⟨_, rfl⟩
                have HR := Lib.hid hR
                have hRt : ((R == 21) == decide (0 < j)) = true := by
                  rw [hR]
                  by_cases e : 0 < j
                  · rw [if_pos e, decide_eq_true e]; rfl
                  · rw [if_neg e, decide_eq_false e]; rfl
                clear hR
                go_wp2_with (first | (go_at_call 27; ((with_reducible refine (changes_way c bb pb M' f _ _ _ HCh.out hC'.out).mono ?_); rintro e w3 ⟨rfl, rfl⟩)) | (go_at_call 15; ((with_reducible refine (prog_again c bb pb M' f _ _ _ HCh.out hC'.out (by omega) R HR.out).mono ?_); rintro e w3 ⟨rfl, u3⟩; have U3 := Lib.hid u3; clear u3)))
                all_goals
                  go_ret
                  exact ⟨rfl, (upd_new hL3.out.2.2 U3.out HB'.out).below (fun _ _ h => h)⟩

set_option maxRecDepth 100000 in
set_option maxHeartbeats 3200000 in
theorem counts_neg (a : Option Addr) (len cap : Nat) (zs : List Int) (pages : Int) (hp : pages < 0) (w : World) (wa : IsRow .i64 w a len cap zs) :
    Calls Try.prog 9 #[.slice a len cap, .int .i64 pages] w fun e w' => e = .returned (.bool true) ∧ Below w.heap.size w w' := by
  obtain ⟨hI, hlen⟩ := wa.ints
  have HI := Lib.hid hI
  clear wa hI
  unfold maxLen at hlen
  have p1 : decide (pages < 0) = true := decide_eq_true hp
  clear hp
  go_enter Try.func9, Try.ntmps9
  go_wp2_with (first | (go_at_call 10; refine (speaks_any _).mono ?_; rintro e w0 ⟨rfl, u0⟩; have U0 := Lib.hid u0; clear u0) | (go_at_call 11; refine (new_at 4 8 1 4 8 1 rfl rfl rfl _ (by omega) (by omega) (by omega) (by omega) (by omega) (by omega) (by omega)).mono ?_; rintro e w1 ⟨c, bb, pb, rfl, h1, u1, hB⟩; have H1 := Lib.hid h1; have U1 := Lib.hid u1; have HB := Lib.hid hB; clear h1 u1 hB))
  obtain ⟨g, hg⟩ : ∃ g, g = w1.heap.size := ⟨_, rfl⟩
  have HG := Lib.hid hg
  rw [← hg]
  have hgw : Hid (w.heap.size ≤ g) := Lib.hid (by rw [hg]; exact Nat.le_trans U0.out.size U1.out.size)
  have HB' : Hid (∀ k, Own c bb pb 4 k → w.heap.size ≤ k) := Lib.hid (fun k hk => Nat.le_trans U0.out.size (HB.out k hk))
  have HS : Hid (LawIn w (w1.alloc (.cells #[.int .i64 0, .int .i64 0, .int .i64 0, .int .i64 0] 62)) c bb pb g (newCh 4 8 1) (fun _ => 0)) := Lib.hid (by
    refine ⟨H1.out.grow ((Upd.refl noBlock w1).alloc _), ⟨_, by rw [hg]; exact heap_alloc_new _ _, rfl, fun i hi => ?_⟩, (U0.out.trans U1.out).alloc _⟩
    have : i = 0 ∨ i = 1 ∨ i = 2 ∨ i = 3 := by omega
    rcases this with rfl | rfl | rfl | rfl <;> rfl)
  clear hg HG H1 U1
  go_loopw [8, 9] (fun n i wr => ∃ (k : Nat) (M : Ch) (f : Nat → Nat), k ≤ len ∧ k ≤ 100 ∧ n = .int .i64 (k : Int) ∧ i = .int .i64 (k : Int) ∧ Hid (CSt M f k 0) ∧ Hid (LawIn w wr c bb pb g M f)) (fun _ i _ => 100 - (intOf i).toNat)
  case atStart => exact ⟨0, newCh 4 8 1, fun _ => 0, Nat.zero_le _, Nat.zero_le _, rfl, rfl, Lib.hid CSt.new, HS⟩
  case round =>
    obtain ⟨k, M, f, hk, hk100, rfl, rfl, hC, hL⟩ := hrel
    have HCh : Hid (ChipIn wr c bb pb M) := Lib.hid hL.out.1
    by_cases hlt : k < len ∧ k < 100
    · obtain ⟨hl1, hl2⟩ := hlt
      obtain ⟨ga, off, ha, _, hcell⟩ := (HI.out.grow hL.out.2.2 (Nat.le_refl _)).cell (by omega)
      subst ha
      have ck := hcell k hl1
      clear hcell
      obtain ⟨x, hx⟩ : ∃ x, x = (zs.take len).getD k 0 := ⟨_, rfl⟩
      rw [← hx] at ck
      obtain ⟨b, hb⟩ : ∃ b : Nat, b = (x % 4).toNat := ⟨_, rfl⟩
      have hb4 : b < 4 := by omega
      have hand : bits .and .i64 x 3 = (b : Int) := (i64_mask x 2 (by omega)).trans (by rw [hb]; show x % 4 = _; omega)
      clear hx hb
      have hfb : f b ≤ 100 := by have := hC.out.fit.er b; rw [hC.out.er b hb4] at this; omega
      have d2 : decide ((k : Int) < 100) = true := decide_eq_true (by omega)
      go_wp2_with (first | (go_at_call 13; ((with_reducible refine (erase_way c bb pb M f k b _ HCh.out hC.out (by omega) hb4).mono ?_); rintro e w2 ⟨rfl, h2, u2⟩; have HL2 : Hid (LawIn w w2 c bb pb g (M.eraseM b) f) := Lib.hid (hL.out.own h2 u2 hC.out.nb HB'.out); have cw := HL2.out.2.1.cell (i := b) hb4; have fw := HL2.out.2.1.frozen b; clear h2 u2)))
      go_roundw
      case rel => exact ⟨k + 1, M.eraseM b, fun j => if j = b then f b + 1 else f j, by omega, by omega, by go_num, by go_num, Lib.hid (by
        rcases hC.out.erase b with ⟨_, h⟩ | h
        · exact h
        · omega), Lib.hid (HL2.out.put hgw.out b (f b + 1))⟩
      case measure => simp [intOf]; omega
    · have hways : (decide (k < len) = true ∧ decide ((k : Int) < 100) = false) ∨ decide (k < len) = false := by
        by_cases e : k < len
        · left; exact ⟨decide_eq_true e, decide_eq_false (by omega)⟩
        · right; exact decide_eq_false e
      have hkB : k ≤ 100 := hk100
      clear hlt hk100 HI
      rcases hways with ⟨hw1, hw2⟩ | hw1
      all_goals
        go_wp2
        go_loopw [8, 11] (fun n i wr => ∃ (j : Nat) (M' : Ch), j ≤ 5 ∧ n = .int .i64 ((k + j : Nat) : Int) ∧ i = .int .i64 (j : Int) ∧ Hid (CSt M' f (k + j) j) ∧ Hid (LawIn w wr c bb pb g M' f)) (fun _ i _ => 5 - (intOf i).toNat)
        case atStart => exact ⟨0, M, Nat.zero_le _, rfl, rfl, hC, hL⟩
        case round =>
          obtain ⟨j, M', hj, rfl, rfl, hC', hL'⟩ := hrel
          have HCh : Hid (ChipIn _ c bb pb M') := Lib.hid hL'.out.1
          by_cases hlt : j < 5
          · have d5 : decide ((j : Int) < 5) = true := decide_eq_true (by omega)
            go_wp2_with (first | (go_at_call 15; ((with_reducible refine (prog_way c bb pb M' f (k + j) j _ HCh.out hC'.out (by omega) (by omega)).mono ?_); rintro e w2 ⟨rfl, h2, u2⟩; have HL2 : Hid (LawIn w w2 c bb pb g (M'.progM 1 j [97]) f) := Lib.hid (hL'.out.own h2 u2 hC'.out.nb HB'.out); clear h2 u2)))
            go_roundw
            case rel => exact ⟨j + 1, M'.progM 1 j [97], by omega, by go_num, by go_num, Lib.hid (hC'.out.prog [97]).2, HL2⟩
            case measure => simp [intOf]; omega
          · have d5 : decide ((j : Int) < 5) = false := decide_eq_false (by omega)
            have hjP : j = 5 := by omega
            have HJ := Lib.hid hjP; clear hjP
            clear hlt
            obtain ⟨N, hN⟩ : ∃ N, N = k + j := ⟨_, rfl⟩
            rw [← hN] at hC' ⊢
            have hNb : N ≤ 1000 := by omega
            clear hN
            go_wp2
            go_loopw [12, 13] (fun i _ wr => ∃ (q : Nat), q ≤ 4 ∧ i = .int .i64 (q : Int) ∧ Hid (LawIn w wr c bb pb g M' f)) (fun i _ _ => 4 - (intOf i).toNat)
            case atStart => exact ⟨0, Nat.zero_le _, rfl, hL'⟩
            case round =>
              obtain ⟨q, hq, rfl, hL3⟩ := hrel
              have HCh : Hid (ChipIn _ c bb pb M') := Lib.hid hL3.out.1
              by_cases hlt : q < 4
              · have d3 : decide ((q : Int) < 4) = true := decide_eq_true (by omega)
                go_wp2_with (first | (go_at_call 28; ((with_reducible refine (counts_way c bb pb M' f _ _ q _ HCh.out hC'.out hlt).mono ?_); rintro e w3 ⟨rfl, kd, rfl⟩; have HL4 := Lib.hid (hL3.out.drewN kd); have cw := HL4.out.2.1.cell (i := q) hlt)))
                go_roundw
                case rel => exact ⟨q + 1, by omega, by go_num, HL4⟩
                case measure => simp [intOf]; omega
              · have d3 : decide ((q : Int) < 4) = false := decide_eq_false (by omega)
                obtain ⟨R, hR⟩ : ∃ R : Int, R = if 0 < j then 21 else 0 := ⟨_, rfl⟩
                have HR := Lib.hid hR
                have hRt : (R == 21) = true := by rw [hR, if_pos (by have := HJ.out; omega)]; rfl
                clear hR
                go_wp2_with (first | (go_at_call 27; ((with_reducible refine (changes_way c bb pb M' f _ _ _ HCh.out hC'.out).mono ?_); rintro e w3 ⟨rfl, rfl⟩)) | (go_at_call 15; ((with_reducible refine (prog_again c bb pb M' f _ _ _ HCh.out hC'.out (by omega) R HR.out).mono ?_); rintro e w3 ⟨rfl, u3⟩; have U3 := Lib.hid u3; clear u3)))
                all_goals
                  go_ret
                  exact ⟨rfl, (upd_new hL3.out.2.2 U3.out HB'.out).below (fun _ _ h => h)⟩

set_option maxRecDepth 100000 in
set_option maxHeartbeats 3200000 in
theorem counts_big (a : Option Addr) (len cap : Nat) (zs : List Int) (pages : Int) (hp : 8 < pages) (w : World) (wa : IsRow .i64 w a len cap zs) :
    Calls Try.prog 9 #[.slice a len cap, .int .i64 pages] w fun e w' => e = .returned (.bool true) ∧ Below w.heap.size w w' := by
  obtain ⟨hI, hlen⟩ := wa.ints
  have HI := Lib.hid hI
  clear wa hI
  unfold maxLen at hlen
  have p1 : decide (pages < 0) = false := decide_eq_false (by omega)
  have p2 : decide (8 < pages) = true := decide_eq_true hp
  clear hp
  go_enter Try.func9, Try.ntmps9
  go_wp2_with (first | (go_at_call 10; refine (speaks_any _).mono ?_; rintro e w0 ⟨rfl, u0⟩; have U0 := Lib.hid u0; clear u0) | (go_at_call 11; refine (new_at 4 8 1 4 8 1 rfl rfl rfl _ (by omega) (by omega) (by omega) (by omega) (by omega) (by omega) (by omega)).mono ?_; rintro e w1 ⟨c, bb, pb, rfl, h1, u1, hB⟩; have H1 := Lib.hid h1; have U1 := Lib.hid u1; have HB := Lib.hid hB; clear h1 u1 hB))
  obtain ⟨g, hg⟩ : ∃ g, g = w1.heap.size := ⟨_, rfl⟩
  have HG := Lib.hid hg
  rw [← hg]
  have hgw : Hid (w.heap.size ≤ g) := Lib.hid (by rw [hg]; exact Nat.le_trans U0.out.size U1.out.size)
  have HB' : Hid (∀ k, Own c bb pb 4 k → w.heap.size ≤ k) := Lib.hid (fun k hk => Nat.le_trans U0.out.size (HB.out k hk))
  have HS : Hid (LawIn w (w1.alloc (.cells #[.int .i64 0, .int .i64 0, .int .i64 0, .int .i64 0] 62)) c bb pb g (newCh 4 8 1) (fun _ => 0)) := Lib.hid (by
    refine ⟨H1.out.grow ((Upd.refl noBlock w1).alloc _), ⟨_, by rw [hg]; exact heap_alloc_new _ _, rfl, fun i hi => ?_⟩, (U0.out.trans U1.out).alloc _⟩
    have : i = 0 ∨ i = 1 ∨ i = 2 ∨ i = 3 := by omega
    rcases this with rfl | rfl | rfl | rfl <;> rfl)
  clear hg HG H1 U1
  go_loopw [8, 9] (fun n i wr => ∃ (k : Nat) (M : Ch) (f : Nat → Nat), k ≤ len ∧ k ≤ 100 ∧ n = .int .i64 (k : Int) ∧ i = .int .i64 (k : Int) ∧ Hid (CSt M f k 0) ∧ Hid (LawIn w wr c bb pb g M f)) (fun _ i _ => 100 - (intOf i).toNat)
  case atStart => exact ⟨0, newCh 4 8 1, fun _ => 0, Nat.zero_le _, Nat.zero_le _, rfl, rfl, Lib.hid CSt.new, HS⟩
  case round =>
    obtain ⟨k, M, f, hk, hk100, rfl, rfl, hC, hL⟩ := hrel
    have HCh : Hid (ChipIn wr c bb pb M) := Lib.hid hL.out.1
    by_cases hlt : k < len ∧ k < 100
    · obtain ⟨hl1, hl2⟩ := hlt
      obtain ⟨ga, off, ha, _, hcell⟩ := (HI.out.grow hL.out.2.2 (Nat.le_refl _)).cell (by omega)
      subst ha
      have ck := hcell k hl1
      clear hcell
      obtain ⟨x, hx⟩ : ∃ x, x = (zs.take len).getD k 0 := ⟨_, rfl⟩
      rw [← hx] at ck
      obtain ⟨b, hb⟩ : ∃ b : Nat, b = (x % 4).toNat := ⟨_, rfl⟩
      have hb4 : b < 4 := by omega
      have hand : bits .and .i64 x 3 = (b : Int) := (i64_mask x 2 (by omega)).trans (by rw [hb]; show x % 4 = _; omega)
      clear hx hb
      have hfb : f b ≤ 100 := by have := hC.out.fit.er b; rw [hC.out.er b hb4] at this; omega
      have d2 : decide ((k : Int) < 100) = true := decide_eq_true (by omega)
      go_wp2_with (first | (go_at_call 13; ((with_reducible refine (erase_way c bb pb M f k b _ HCh.out hC.out (by omega) hb4).mono ?_); rintro e w2 ⟨rfl, h2, u2⟩; have HL2 : Hid (LawIn w w2 c bb pb g (M.eraseM b) f) := Lib.hid (hL.out.own h2 u2 hC.out.nb HB'.out); have cw := HL2.out.2.1.cell (i := b) hb4; have fw := HL2.out.2.1.frozen b; clear h2 u2)))
      go_roundw
      case rel => exact ⟨k + 1, M.eraseM b, fun j => if j = b then f b + 1 else f j, by omega, by omega, by go_num, by go_num, Lib.hid (by
        rcases hC.out.erase b with ⟨_, h⟩ | h
        · exact h
        · omega), Lib.hid (HL2.out.put hgw.out b (f b + 1))⟩
      case measure => simp [intOf]; omega
    · have hways : (decide (k < len) = true ∧ decide ((k : Int) < 100) = false) ∨ decide (k < len) = false := by
        by_cases e : k < len
        · left; exact ⟨decide_eq_true e, decide_eq_false (by omega)⟩
        · right; exact decide_eq_false e
      have hkB : k ≤ 100 := hk100
      clear hlt hk100 HI
      rcases hways with ⟨hw1, hw2⟩ | hw1
      all_goals
        go_wp2
        go_loopw [8, 11] (fun n i wr => ∃ (j : Nat) (M' : Ch), j ≤ 5 ∧ n = .int .i64 ((k + j : Nat) : Int) ∧ i = .int .i64 (j : Int) ∧ Hid (CSt M' f (k + j) j) ∧ Hid (LawIn w wr c bb pb g M' f)) (fun _ i _ => 5 - (intOf i).toNat)
        case atStart => exact ⟨0, M, Nat.zero_le _, rfl, rfl, hC, hL⟩
        case round =>
          obtain ⟨j, M', hj, rfl, rfl, hC', hL'⟩ := hrel
          have HCh : Hid (ChipIn _ c bb pb M') := Lib.hid hL'.out.1
          by_cases hlt : j < 5
          · have d5 : decide ((j : Int) < 5) = true := decide_eq_true (by omega)
            go_wp2_with (first | (go_at_call 15; ((with_reducible refine (prog_way c bb pb M' f (k + j) j _ HCh.out hC'.out (by omega) (by omega)).mono ?_); rintro e w2 ⟨rfl, h2, u2⟩; have HL2 : Hid (LawIn w w2 c bb pb g (M'.progM 1 j [97]) f) := Lib.hid (hL'.out.own h2 u2 hC'.out.nb HB'.out); clear h2 u2)))
            go_roundw
            case rel => exact ⟨j + 1, M'.progM 1 j [97], by omega, by go_num, by go_num, Lib.hid (hC'.out.prog [97]).2, HL2⟩
            case measure => simp [intOf]; omega
          · have d5 : decide ((j : Int) < 5) = false := decide_eq_false (by omega)
            have hjP : j = 5 := by omega
            have HJ := Lib.hid hjP; clear hjP
            clear hlt
            obtain ⟨N, hN⟩ : ∃ N, N = k + j := ⟨_, rfl⟩
            rw [← hN] at hC' ⊢
            have hNb : N ≤ 1000 := by omega
            clear hN
            go_wp2
            go_loopw [12, 13] (fun i _ wr => ∃ (q : Nat), q ≤ 4 ∧ i = .int .i64 (q : Int) ∧ Hid (LawIn w wr c bb pb g M' f)) (fun i _ _ => 4 - (intOf i).toNat)
            case atStart => exact ⟨0, Nat.zero_le _, rfl, hL'⟩
            case round =>
              obtain ⟨q, hq, rfl, hL3⟩ := hrel
              have HCh : Hid (ChipIn _ c bb pb M') := Lib.hid hL3.out.1
              by_cases hlt : q < 4
              · have d3 : decide ((q : Int) < 4) = true := decide_eq_true (by omega)
                go_wp2_with (first | (go_at_call 28; ((with_reducible refine (counts_way c bb pb M' f _ _ q _ HCh.out hC'.out hlt).mono ?_); rintro e w3 ⟨rfl, kd, rfl⟩; have HL4 := Lib.hid (hL3.out.drewN kd); have cw := HL4.out.2.1.cell (i := q) hlt)))
                go_roundw
                case rel => exact ⟨q + 1, by omega, by go_num, HL4⟩
                case measure => simp [intOf]; omega
              · have d3 : decide ((q : Int) < 4) = false := decide_eq_false (by omega)
                obtain ⟨R, hR⟩ : ∃ R : Int, R = if 0 < j then 21 else 0 := ⟨_, rfl⟩
                have HR := Lib.hid hR
                have hRt : (R == 21) = true := by rw [hR, if_pos (by have := HJ.out; omega)]; rfl
                clear hR
                go_wp2_with (first | (go_at_call 27; ((with_reducible refine (changes_way c bb pb M' f _ _ _ HCh.out hC'.out).mono ?_); rintro e w3 ⟨rfl, rfl⟩)) | (go_at_call 15; ((with_reducible refine (prog_again c bb pb M' f _ _ _ HCh.out hC'.out (by omega) R HR.out).mono ?_); rintro e w3 ⟨rfl, u3⟩; have U3 := Lib.hid u3; clear u3)))
                all_goals
                  go_ret
                  exact ⟨rfl, (upd_new hL3.out.2.2 U3.out HB'.out).below (fun _ _ h => h)⟩

theorem nandCounts_walk (a : Option Addr) (len cap : Nat) (zs : List Int) (pages : Int) (w : World) (wa : IsRow .i64 w a len cap zs) (_hreach : cap * 8 ≤ 140737488351232) (_wp : (Lit.int .i64 pages).wf = true) :
    Calls Try.prog 9 #[.slice a len cap, .int .i64 pages] w fun e w' => e = .returned (.bool true) ∧ Below w.heap.size w w' := by
  by_cases h1 : pages < 0
  · exact counts_neg a len cap zs pages h1 w wa
  · by_cases h2 : 8 < pages
    · exact counts_big a len cap zs pages h2 w wa
    · obtain ⟨P, rfl⟩ : ∃ P : Nat, pages = (P : Int) := ⟨pages.toNat, by omega⟩
      exact counts_ok a len cap zs P (by omega) w wa
end Go.Proofs.Ytibkdoomnidndaa
