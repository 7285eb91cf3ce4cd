/- NandOnce: the chip of the law, plain, its calls, and the walk. -/
import Derived.Test.YtibkdoomnidndaaNo
import Derived.DataShut
namespace Go.Proofs.Ytibkdoomnidndaa
open Go.RowKit

structure OSt (M : Ch) (want : List UInt8) (n : Nat) : Prop where
  nb : M.nb = 2
  np : M.np = 8
  sz : M.sz = 3
  off : M.off = false
  left : M.left = 0
  most : M.most = 0
  fit : M.Fit n
  worn : ∀ b, (M.bk b).worn = false
  er : (M.bk 0).er = 0
  p1 : (M.bk 0).pg 1 = pg0
  p2 : (M.bk 0).pg 2 = ⟨1, false, want⟩
  st : ∀ b p, ((M.bk b).pg p).st ≤ 2
def once0 (want : List UInt8) : Ch := (newCh 2 8 3).progM 0 2 want
theorem once0_e : (0 : Int) = (newCh 2 8 3).progE 0 2 := by decide
theorem once0_is (want : List UInt8) : once0 want = (newCh 2 8 3).changed.setBk 0 (newBk.setPg 2 (pg0.write want)) := rfl
theorem once0_st (want : List UInt8) : OSt (once0 want) want 1 := by
  have hf : (once0 want).Fit 1 := (newCh_fit 2 8 3).prog 0 2 want
  rw [once0_is] at hf ⊢
  refine ⟨rfl, rfl, rfl, rfl, rfl, rfl, hf, fun b => ?_, rfl, rfl, rfl, fun b p => ?_⟩
  · show (if b = 0 then _ else newBk).worn = false
    by_cases e : b = 0
    · rw [if_pos e]; rfl
    · rw [if_neg e]; rfl
  · show ((if b = 0 then (newBk.setPg 2 (pg0.write want)) else newBk).pg p).st ≤ 2
    by_cases e : b = 0
    · rw [if_pos e]
      show (if p = 2 then _ else pg0).st ≤ 2
      by_cases e2 : p = 2
      · rw [if_pos e2]; show 1 ≤ 2; omega
      · rw [if_neg e2]; show 0 ≤ 2; omega
    · rw [if_neg e]; show 0 ≤ 2; omega
theorem OSt.mono {M : Ch} {want : List UInt8} {n : Nat} (h : OSt M want n) : OSt M want (n + 1) :=
  ⟨h.nb, h.np, h.sz, h.off, h.left, h.most, h.fit.mono (Nat.le_succ n), h.worn, h.er, h.p1, h.p2, h.st⟩
theorem OSt.torn {M : Ch} {want : List UInt8} {n : Nat} (h : OSt M want n) : M.torn = false := by unfold Ch.torn; rw [h.left]; rfl
theorem OSt.prog {M : Ch} {want : List UInt8} {n : Nat} (h : OSt M want n) (b p : Nat) (l : List UInt8) : OSt (M.progM b p l) want (n + 1) := by
  have hf := h.fit.prog b p l
  by_cases hb : blankFrom (M.bk b) M.np p = true
  · have hm : M.progM b p l = M.changed.setBk b ((M.bk b).setPg p (((M.bk b).pg p).write l)) := by
      unfold Ch.progM; simp [h.off, h.worn b, h.torn, hb]
    have hne : b = 0 → ¬ p ≤ 2 := by
      rintro rfl hp
      have := blank_no (B := M.bk 0) (np := M.np) (p := p) (r := 2) hp (by rw [h.np]; omega) (by rw [h.p2]; rfl)
      rw [this] at hb; cases hb
    rw [hm] at hf ⊢
    refine ⟨h.nb, h.np, h.sz, ?_, ?_, h.most, hf, fun c => ?_, ?_, ?_, ?_, fun c q => ?_⟩
    · show (M.left == 1) = false; rw [h.left]; rfl
    · show M.left - 1 = 0; rw [h.left]
    · show (if c = b then _ else M.bk c).worn = false
      by_cases e : c = b
      · rw [if_pos e]; exact h.worn b
      · rw [if_neg e]; exact h.worn c
    · show (if 0 = b then _ else M.bk 0).er = 0
      by_cases e : 0 = b
      · rw [if_pos e]; subst e; exact h.er
      · rw [if_neg e]; exact h.er
    · show (if 0 = b then _ else M.bk 0).pg 1 = pg0
      by_cases e : 0 = b
      · rw [if_pos e]; subst e
        show (if 1 = p then _ else (M.bk 0).pg 1) = pg0
        rw [if_neg (by have := hne rfl; omega)]; exact h.p1
      · rw [if_neg e]; exact h.p1
    · show (if 0 = b then _ else M.bk 0).pg 2 = _
      by_cases e : 0 = b
      · rw [if_pos e]; subst e
        show (if 2 = p then _ else (M.bk 0).pg 2) = _
        rw [if_neg (by have := hne rfl; omega)]; exact h.p2
      · rw [if_neg e]; exact h.p2
    · show ((if c = b then _ else M.bk c).pg q).st ≤ 2
      by_cases e : c = b
      · rw [if_pos e]
        show (if q = p then _ else (M.bk b).pg q).st ≤ 2
        by_cases e2 : q = p
        · rw [if_pos e2]; show 1 ≤ 2; omega
        · rw [if_neg e2]; exact h.st b q
      · rw [if_neg e]; exact h.st c q
  · have hm : M.progM b p l = M := by
      unfold Ch.progM; simp [h.off, h.worn b, hb]
    rw [hm]; exact h.mono
theorem OSt.erase {M : Ch} {want : List UInt8} {n : Nat} (h : OSt M want n) : OSt (M.eraseM 1) want (n + 1) := by
  have hf := h.fit.erase 1
  have hm : M.eraseM 1 = M.changed.setBk 1 ((M.bk 1).counted.allPg fun _ => pg0) := by
    unfold Ch.eraseM; simp [h.off, h.worn 1, h.torn]
  rw [hm] at hf ⊢
  refine ⟨h.nb, h.np, h.sz, ?_, ?_, h.most, hf, fun c => ?_, h.er, h.p1, h.p2, fun c q => ?_⟩
  · show (M.left == 1) = false; rw [h.left]; rfl
  · show M.left - 1 = 0; rw [h.left]
  · show (if c = 1 then _ else M.bk c).worn = false
    by_cases e : c = 1
    · rw [if_pos e]; exact h.worn 1
    · rw [if_neg e]; exact h.worn c
  · show ((if c = 1 then _ else M.bk c).pg q).st ≤ 2
    by_cases e : c = 1
    · rw [if_pos e]; show 0 ≤ 2; omega
    · rw [if_neg e]; exact h.st c q
theorem OSt.read {M : Ch} {want : List UInt8} {n : Nat} (h : OSt M want n) (b : Nat) : OSt (M.readM b) want (n + 1) := by
  have key : ∀ c, ((M.readM b).bk c).pg = (M.bk c).pg ∧ ((M.readM b).bk c).worn = (M.bk c).worn ∧ ((M.readM b).bk c).er = (M.bk c).er := by
    intro c
    have e0 : (M.readM b).bk c = if c = b then { M.bk b with rd := (M.bk b).rd + 1 } else M.bk c := rfl
    rw [e0]
    by_cases e : c = b
    · subst e; rw [if_pos rfl]; exact ⟨rfl, rfl, rfl⟩
    · rw [if_neg e]; exact ⟨rfl, rfl, rfl⟩
  exact ⟨h.nb, h.np, h.sz, h.off, h.left, h.most, h.fit.read b, fun c => by rw [(key c).2.1]; exact h.worn c, by rw [(key 0).2.2]; exact h.er, by rw [(key 0).1]; exact h.p1, by rw [(key 0).1]; exact h.p2, fun c q => by rw [(key c).1]; exact h.st c q⟩

def LawW' (w wr : World) (c bb : Nat) (pb : Nat → Nat) (M : Ch) : Prop := ChipIn wr c bb pb M ∧ Upd noBlock w wr
def OnceStep (w w' : World) (c bb : Nat) (pb : Nat → Nat) (want : List UInt8) (n : Nat) (M' : Ch) : Prop := OSt M' want (n + 1) ∧ LawW' w w' c bb pb M'
theorem once_prog (c bb : Nat) (pb : Nat → Nat) (M : Ch) (want : List UInt8) (x : Int) (b : Nat) (hx : x = (b : Int)) (hb : b < 2) (y : Int) (s : ByteArray) (hs : s.size = 3) (n : Nat) (w0 w : World) (hL : LawW' w0 w c bb pb M) (hB : ∀ k, Own c bb pb 2 k → w0.heap.size ≤ k) (hO : OSt M want n) (hn : n < 4611686018427387904) :
    Calls Try.prog 15 #[.pointer (some ⟨c, 0, none⟩), .int .i64 x, .int .i64 y, .string s] w fun e w' => ∃ r M', e = .returned (.int .i64 r) ∧ OnceStep w0 w' c bb pb want n M' := by
  subst hx
  by_cases hy : y < 0 ∨ (M.np : Int) ≤ y
  · refine (program_out_p c bb pb M b y s w hL.1 (by rw [hO.nb]; exact hb) hy).mono ?_
    rintro e w' ⟨rfl, rfl⟩
    exact ⟨_, M, rfl, hO.mono, hL⟩
  · obtain ⟨p, rfl⟩ : ∃ p : Nat, y = (p : Int) := ⟨y.toNat, by omega⟩
    refine (program_at c bb pb M (b : Int) (p : Int) b p n rfl rfl s s.data.toList rfl _ rfl w hL.1 hO.fit hn (by rw [hO.nb]; exact hb) (by omega) (by rw [hO.sz]; exact hs)).mono ?_
    rintro e w' ⟨rfl, h2, u2⟩
    exact ⟨_, _, rfl, hO.prog b p _, h2, upd_new hL.2 (by rw [hO.nb] at u2; exact u2) hB⟩
theorem once_erase (c bb : Nat) (pb : Nat → Nat) (M : Ch) (want : List UInt8) (n : Nat) (w0 w : World) (hL : LawW' w0 w c bb pb M) (hB : ∀ k, Own c bb pb 2 k → w0.heap.size ≤ k) (hO : OSt M want n) (hn : n < 4611686018427387904) :
    Calls Try.prog 13 #[.pointer (some ⟨c, 0, none⟩), .int .i64 1] w fun e w' => ∃ r M', e = .returned (.int .i64 r) ∧ OnceStep w0 w' c bb pb want n M' := by
  refine (erase_in c bb pb M 1 n w hL.1 hO.fit hn (by rw [hO.nb]; omega) (by rw [hO.np]; omega)).mono ?_
  rintro e w' ⟨rfl, h2, u2⟩
  exact ⟨_, _, rfl, hO.erase, h2, upd_new hL.2 (by rw [hO.nb] at u2; exact u2) hB⟩
theorem once_read (c bb : Nat) (pb : Nat → Nat) (M : Ch) (want : List UInt8) (x y : Int) (n : Nat) (w0 w : World) (hL : LawW' w0 w c bb pb M) (hB : ∀ k, Own c bb pb 2 k → w0.heap.size ≤ k) (hO : OSt M want n) (hn : n < 4611686018427387904) :
    Calls Try.prog 17 #[.pointer (some ⟨c, 0, none⟩), .int .i64 x, .int .i64 y] w fun e w' => ∃ s r M', e = .returned (.tuple #[.string s, .int .i64 r]) ∧ OnceStep w0 w' c bb pb want n M' := by
  by_cases hx : x < 0 ∨ (M.nb : Int) ≤ x
  · refine (read_out c bb pb M x y w hL.1 hx).mono ?_
    rintro e w' ⟨rfl, rfl⟩
    exact ⟨_, _, M, rfl, hO.mono, hL⟩
  · obtain ⟨b, rfl⟩ : ∃ b : Nat, x = (b : Int) := ⟨x.toNat, by omega⟩
    by_cases hy : y < 0 ∨ (M.np : Int) ≤ y
    · refine (read_out_p c bb pb M b y w hL.1 (by omega) hy).mono ?_
      rintro e w' ⟨rfl, rfl⟩
      exact ⟨_, _, M, rfl, hO.mono, hL⟩
    · obtain ⟨p, rfl⟩ : ∃ p : Nat, y = (p : Int) := ⟨y.toNat, by omega⟩
      refine (read_in c bb pb M (b : Int) (p : Int) b p n rfl rfl _ rfl w hL.1 hO.fit hn (by omega) (by omega) (by rw [hO.sz]; omega) hO.off (.inl (by rw [hO.most]; omega)) (hO.st b p)).mono ?_
      rintro e w' ⟨rfl, h2, u2⟩
      exact ⟨_, _, _, rfl, hO.read b, h2, upd_new hL.2 (by rw [hO.nb] at u2; exact u2) hB⟩
/-! the law's last calls -/
theorem once_look (c bb : Nat) (pb : Nat → Nat) (M : Ch) (want : List UInt8) (hw : want.length = 3) (s : ByteArray) (hs : s = ⟨want.toArray⟩) (n : Nat) (w0 w : World) (hL : LawW' w0 w c bb pb M) (hB : ∀ k, Own c bb pb 2 k → w0.heap.size ≤ k) (hO : OSt M want n) (hn : n < 4611686018427387904) :
    Calls Try.prog 17 #[.pointer (some ⟨c, 0, none⟩), .int .i64 0, .int .i64 2] w fun e w' => e = .returned (.tuple #[.string s, .int .i64 0]) ∧ OnceStep w0 w' c bb pb want n (M.readM 0) := by
  have := hw
  refine (read_in c bb pb M 0 2 0 2 n rfl rfl s (by rw [hs, hO.p2]; rfl) w hL.1 hO.fit hn (by rw [hO.nb]; omega) (by rw [hO.np]; omega) (by rw [hO.sz]; omega) hO.off (.inl (by rw [hO.most]; omega)) (hO.st 0 2)).mono ?_
  rintro e w' ⟨rfl, h2, u2⟩
  exact ⟨rfl, hO.read 0, h2, upd_new hL.2 (by rw [hO.nb] at u2; exact u2) hB⟩
theorem once_look1 (c bb : Nat) (pb : Nat → Nat) (M : Ch) (want : List UInt8) (n : Nat) (w0 w : World) (hL : LawW' w0 w c bb pb M) (hB : ∀ k, Own c bb pb 2 k → w0.heap.size ≤ k) (hO : OSt M want n) (hn : n < 4611686018427387904) :
    Calls Try.prog 17 #[.pointer (some ⟨c, 0, none⟩), .int .i64 0, .int .i64 1] w fun e w' => e = .returned (.tuple #[.string ⟨#[255, 255, 255]⟩, .int .i64 0]) ∧ OnceStep w0 w' c bb pb want n (M.readM 0) := by
  refine (read_in c bb pb M 0 1 0 1 n rfl rfl ⟨#[255, 255, 255]⟩ (by rw [hO.p1, hO.sz]; rfl) w hL.1 hO.fit hn (by rw [hO.nb]; omega) (by rw [hO.np]; omega) (by rw [hO.sz]; omega) hO.off (.inl (by rw [hO.most]; omega)) (hO.st 0 1)).mono ?_
  rintro e w' ⟨rfl, h2, u2⟩
  exact ⟨rfl, hO.read 0, h2, upd_new hL.2 (by rw [hO.nb] at u2; exact u2) hB⟩
theorem once_counts (c bb : Nat) (pb : Nat → Nat) (M : Ch) (want : List UInt8) (n : Nat) (w0 w : World) (hL : LawW' w0 w c bb pb M) (hO : OSt M want n) :
    Calls Try.prog 28 #[.pointer (some ⟨c, 0, none⟩), .int .i64 0] w fun e w' => ∃ r, e = .returned (.tuple #[.int .i64 0, .int .i64 r]) ∧ LawW' w0 w' c bb pb M := by
  have := counts_in c bb pb M 0 w hL.1 (by rw [hO.nb]; omega)
  rw [hO.er] at this
  refine this.mono ?_
  rintro e w' ⟨rfl, k, rfl⟩
  exact ⟨_, rfl, hL.1.drewN k, hL.2.drewN k⟩
theorem once_last (c bb : Nat) (pb : Nat → Nat) (M : Ch) (want : List UInt8) (n : Nat) (w0 w : World) (hL : LawW' w0 w c bb pb M) (hB : ∀ k, Own c bb pb 2 k → w0.heap.size ≤ k) (hO : OSt M want n) (hn : n < 4611686018427387904) :
    Calls Try.prog 13 #[.pointer (some ⟨c, 0, none⟩), .int .i64 0] w fun e w' => e = .returned (.int .i64 0) ∧ Upd noBlock w0 w' := by
  refine (erase_in c bb pb M 0 n w hL.1 hO.fit hn (by rw [hO.nb]; omega) (by rw [hO.np]; omega)).mono ?_
  rintro e w' ⟨rfl, h2, u2⟩
  refine ⟨by unfold Ch.eraseE; simp [hO.off, hO.worn 0, hO.torn], upd_new hL.2 (by rw [hO.nb] at u2; exact u2) hB⟩
theorem once_first (c bb : Nat) (pb : Nat → Nat) (want : List UInt8) (hw : want.length = 3) (s : ByteArray) (hs : s = ⟨want.toArray⟩) (w0 w : World) (h : ChipIn w c bb pb (newCh 2 8 3)) (hu : Upd noBlock w0 w) (hB : ∀ k, Own c bb pb 2 k → w0.heap.size ≤ k) :
    Calls Try.prog 15 #[.pointer (some ⟨c, 0, none⟩), .int .i64 0, .int .i64 2, .string s] w fun e w' => e = .returned (.int .i64 0) ∧ LawW' w0 w' c bb pb (once0 want) := by
  refine (program_at c bb pb (newCh 2 8 3) 0 2 0 2 0 rfl rfl s want (by rw [hs]) 0 once0_e w h (newCh_fit 2 8 3) (by omega) (by show 0 < 2; omega) (by show 2 < 8; omega) (by rw [hs]; exact hw)).mono ?_
  rintro e w' ⟨rfl, h2, u2⟩
  exact ⟨rfl, h2, upd_new hu u2 hB⟩

/-- a slice of acts that came in -/
def IsActs (w : World) (a : Option Addr) (len : Nat) : Prop :=
  0 < len → ∃ g off, a = some ⟨g, off, none⟩ ∧ g < w.heap.size ∧ ∀ i, i < len → ∃ x0 x1 x2 x3 x4 : Int, w.cell? ⟨g, off + i * 5, none⟩ = some (.int .i64 x0) ∧ w.cell? ⟨g, off + i * 5 + 1, none⟩ = some (.int .i64 x1) ∧ w.cell? ⟨g, off + i * 5 + 2, none⟩ = some (.int .i64 x2) ∧ w.cell? ⟨g, off + i * 5 + 3, none⟩ = some (.int .i64 x3) ∧ w.cell? ⟨g, off + i * 5 + 4, none⟩ = some (.int .u8 x4) ∧
    ((Lit.int .i64 x0).wf = true ∧ (Lit.int .i64 x1).wf = true ∧ (Lit.int .i64 x2).wf = true ∧ (Lit.int .i64 x3).wf = true ∧ (Lit.int .u8 x4).wf = true)
theorem three_text (f : UInt8) (W : World) :
    (convert 35 9 (.slice (some ⟨W.heap.size, 0, none⟩) 3 3)).run Try.prog (W.alloc (.cells #[.int .u8 (f.toNat : Int), .int .u8 1, .int .u8 2] 5)) = .ok (.string ⟨#[f, 1, 2]⟩) (W.alloc (.cells #[.int .u8 (f.toNat : Int), .int .u8 1, .int .u8 2] 5)) := by
  have := run_convert_bytes_back (P := Try.prog) (W.alloc (.cells #[.int .u8 (f.toNat : Int), .int .u8 1, .int .u8 2] 5)) 35 9 5 ⟨W.heap.size, 0, none⟩ 3 [f, 1, 2] Try.underlying35 Try.underlying5 Try.underlying9 (fun j hj => by
    have hj3 : j = 0 ∨ j = 1 ∨ j = 2 := by
      have : j < 3 := hj
      omega
    rcases hj3 with rfl | rfl | rfl <;> rw [add_zero_addr, cell_of (heap_alloc_new W _)] <;> rfl)
  exact this
set_option maxRecDepth 100000 in
set_option maxHeartbeats 3200000 in
theorem once_walk (a : Option Addr) (len cap : Nat) (f : UInt8) (w : World) (wa : IsActs w a len) (hlen : len ≤ 281474976710656) :
    Calls Try.prog 8 #[.slice a len cap, .int .u8 (f.toNat : Int)] w fun e w' => e = .returned (.bool true) ∧ Below w.heap.size w w' := by
  have HA := Lib.hid wa
  clear wa
  have hcv := fun W => three_text f W
  obtain ⟨want, hwant⟩ : ∃ want : List UInt8, want = [f, 1, 2] := ⟨_, rfl⟩
  obtain ⟨s, hs⟩ : ∃ s : ByteArray, s = ⟨#[f, 1, 2]⟩ := ⟨_, rfl⟩
  rw [← hs] at hcv
  have HW : Hid (want.length = 3 ∧ s = ⟨want.toArray⟩) := Lib.hid (by rw [hwant, hs]; exact ⟨rfl, rfl⟩)
  clear hwant hs
  go_enter Try.func8, Try.ntmps8
  go_wp2_with (first | (go_at_call 10; refine (speaks_any _).mono ?_; rintro e w0 ⟨rfl, u0⟩; have U0 := Lib.hid u0; clear u0) | (go_at_call 11; refine (new_at 2 8 3 2 8 3 rfl rfl rfl _ (by omega) (by omega) (by omega) (by omega) (by omega) (by omega) (by omega)).mono ?_; rintro e w1 ⟨c, bb, pb, rfl, h1, u1, hB⟩; have H1 := Lib.hid (fun o => h1.grow ((Upd.refl noBlock w1).alloc o)); have U1 := Lib.hid (fun o => (U0.out.trans u1).alloc o); have HB : Hid (∀ k, Own c bb pb 2 k → w.heap.size ≤ k) := Lib.hid (fun k hk => Nat.le_trans U0.out.size (hB k hk)); clear h1 u1 hB) | (go_at_call 15; ((with_reducible refine (once_first c bb pb want HW.out.1 s HW.out.2 w _ (H1.out _) (U1.out _) HB.out).mono ?_); rintro e w2 ⟨rfl, h2⟩; have H2 := Lib.hid h2; clear h2)))
  clear hcv
  go_loopw [8] (fun i wr => ∃ (k n : Nat) (M : Ch), k ≤ len ∧ n ≤ k + 1 ∧ i = .int .i64 (k : Int) ∧ Hid (OSt M want n) ∧ Hid (LawW' w wr c bb pb M)) (fun i _ => len - (intOf i).toNat)
  case atStart => exact ⟨0, 1, once0 want, Nat.zero_le _, Nat.le_refl _, rfl, Lib.hid (once0_st want), H2⟩
  case round =>
    obtain ⟨k, n, M, hk, hnk, rfl, hO, hL⟩ := hrel
    have hn : Hid (n + 10 < 4611686018427387904) := Lib.hid (by omega)
    by_cases hlt : k < len
    · obtain ⟨g, off, ha, hg, hcell⟩ := HA.out (by omega)
      subst ha
      obtain ⟨x0, x1, x2, x3, x4, k0, k1, k2, k3, k4, _⟩ := hcell k hlt
      clear hcell
      have c0 := upd_cell hL.out.2 k0
      have c1 := upd_cell hL.out.2 k1
      have c2 := upd_cell hL.out.2 k2
      have c3 := upd_cell hL.out.2 k3
      have c4 := upd_cell hL.out.2 k4
      clear k0 k1 k2 k3 k4
      have HLL : Hid (∀ o, LawW' w (World.alloc _ o) c bb pb M) := Lib.hid (fun o => ⟨hL.out.1.grow ((Upd.refl noBlock _).alloc o), hL.out.2.alloc o⟩)
      go_wp2_with (first | (go_at_call 15; ((with_reducible refine (once_prog c bb pb M want 0 0 rfl (by omega) x2 ⟨#[120, 121, 122]⟩ rfl n w _ (HLL.out _) HB.out hO.out (by have := hn.out; omega)).mono ?_); rintro e w3 ⟨r, M', rfl, hst⟩; have HST := Lib.hid hst; clear hst)) | (go_at_call 15; ((with_reducible refine (once_prog c bb pb M want 1 1 rfl (by omega) x2 ⟨#[117, 118, 119]⟩ rfl n w _ (HLL.out _) HB.out hO.out (by have := hn.out; omega)).mono ?_); rintro e w3 ⟨r, M', rfl, hst⟩; have HST := Lib.hid hst; clear hst)) | (go_at_call 13; ((with_reducible refine (once_erase c bb pb M want n w _ (HLL.out _) HB.out hO.out (by have := hn.out; omega)).mono ?_); rintro e w3 ⟨r, M', rfl, hst⟩; have HST := Lib.hid hst; clear hst)) | (go_at_call 17; ((with_reducible refine (once_read c bb pb M want x1 x2 n w _ (HLL.out _) HB.out hO.out (by have := hn.out; omega)).mono ?_); rintro e w3 ⟨_, r, M', rfl, hst⟩; have HST := Lib.hid hst; clear hst)))
      all_goals
        go_roundw
        case rel => exact ⟨k + 1, n + 1, M', by omega, by omega, by go_num, Lib.hid HST.out.1, Lib.hid HST.out.2⟩
        case measure => simp [intOf]; omega
    · have hd : decide (k < len) = false := decide_eq_false hlt
      clear hlt hk hnk
      go_wp2_with (first | (go_at_call 17; ((with_reducible refine (once_look c bb pb M want HW.out.1 s HW.out.2 n w _ hL.out HB.out hO.out (by have := hn.out; omega)).mono ?_); rintro e w3 ⟨rfl, hO3, hL3⟩; have HO3 := Lib.hid hO3; have HL3 := Lib.hid hL3; clear hO3 hL3)) | (go_at_call 17; ((with_reducible refine (once_look1 c bb pb _ want (n + 1) w _ HL3.out HB.out HO3.out (by have := hn.out; omega)).mono ?_); rintro e w4 ⟨rfl, hO4, hL4⟩; have HO4 := Lib.hid hO4; have HL4 := Lib.hid hL4; clear hO4 hL4)) | (go_at_call 28; ((with_reducible refine (once_counts c bb pb _ want (n + 2) w _ HL4.out HO4.out).mono ?_); rintro e w5 ⟨r5, rfl, hst⟩; have HL5 := Lib.hid hst; clear hst)) | (go_at_call 13; ((with_reducible refine (once_last c bb pb _ want (n + 2) w _ HL5.out HB.out HO4.out (by have := hn.out; omega)).mono ?_); rintro e w6 ⟨rfl, u6⟩; have U6 := Lib.hid u6; clear u6)))
      go_ret
      exact ⟨rfl, U6.out.below (fun _ _ h => h)⟩
end Go.Proofs.Ytibkdoomnidndaa
