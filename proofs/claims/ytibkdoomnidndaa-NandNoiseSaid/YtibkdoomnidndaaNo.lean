/- Walks over package nand: Read of any page, where no bits turn. -/
import Derived.Test.YtibkdoomnidndaaNn
import Derived.Test.YtibkdoomnidndaaNj
namespace Go.Proofs.Ytibkdoomnidndaa
open Go.RowKit

set_option maxRecDepth 100000 in
theorem shown_erased (q np sz p : Nat) (B : Bk) (w : World) (h : PgsIn w q np sz B) (hp : p < np) (hs : (B.pg p).st = 0) (n : Nat) (h1 : 1 ≤ n) (hn : n ≤ 2048) :
    Calls Try.prog 43 #[.pointer (some ⟨q, 3 * p, none⟩), .int .i64 (n : Int)] w fun e w' => ShowsW w w' e (List.replicate n 255) := by
  obtain ⟨c0, _, _, _⟩ := pgs_cells h hp
  rw [hs] at c0
  have hbs : (w.alloc (.cells #[.int .u8 255] 5)).cell? ⟨w.heap.size, 0, none⟩ = some (.int .u8 255) := cell_of (heap_alloc_new w (.cells #[.int .u8 255] 5)) 0
  have HR := Lib.hid (repeat_ff n w.heap.size _ h1 hn hbs)
  clear h hs hbs
  go_enter Try.func43, Try.ntmps43
  go_wp2_with (go_at_call 48; refine HR.out.mono ?_; rintro e w2 ⟨v, rfl, hb, hu⟩; have HB := Lib.hid hb; have HU := Lib.hid hu; clear hb hu)
  go_ret
  exact ⟨_, rfl, HB.out.more (by simp), ((Upd.refl noBlock w).alloc _).trans HU.out⟩
theorem shown_any {M : Ch} (b p : Nat) (q : Nat) (hp : p < M.np) (h1 : 1 ≤ M.sz) (hz : M.sz ≤ 2048) (hst : ((M.bk b).pg p).st ≤ 2) (w1 : World) (h : PgsIn w1 q M.np M.sz (M.bk b)) :
    Calls Try.prog 43 #[.pointer (some ⟨q, 3 * p, none⟩), .int .i64 (M.sz : Int)] w1 fun e w2 => ShowsW w1 w2 e (((M.bk b).pg p).show M.sz) := by
  have : ((M.bk b).pg p).st = 0 ∨ ((M.bk b).pg p).st = 1 ∨ ((M.bk b).pg p).st = 2 := by omega
  rcases this with e | e | e
  · have := shown_erased q M.np M.sz p (M.bk b) w1 h hp e M.sz h1 hz
    unfold Pg.show; rw [if_pos e]; exact this
  · have := shown_written q M.np M.sz p (M.bk b) w1 h hp e M.sz hz
    unfold Pg.show; rw [if_neg (by omega), if_pos e]; exact this
  · have := shown_spoilt q M.np M.sz p (M.bk b) w1 h hp e M.sz hz
    unfold Pg.show; rw [if_neg (by omega), if_neg (by omega)]; exact this
/-- Read at a place that is there, the power on, no bits turned -/
theorem read_in (c bb : Nat) (pb : Nat → Nat) (M : Ch) (x y : Int) (b p n : Nat) (hx : x = (b : Int)) (hy : y = (p : Int)) (s : ByteArray) (hsl : s = ⟨(((M.bk b).pg p).show M.sz).toArray⟩) (w : World) (h : ChipIn w c bb pb M) (hF : M.Fit n) (hn : n < 4611686018427387904) (hb : b < M.nb) (hp : p < M.np) (h1 : 1 ≤ M.sz) (ho : M.off = false) (hq : M.most < 1 ∨ M.piece < 1) (hst : ((M.bk b).pg p).st ≤ 2) :
    Calls Try.prog 17 #[.pointer (some ⟨c, 0, none⟩), .int .i64 x, .int .i64 y] w fun e w' => e = .returned (.tuple #[.string s, .int .i64 0]) ∧ ChipIn w' c bb pb (M.readM b) ∧ Upd (Own c bb pb M.nb) w w' :=
  read_at c bb pb M x y b p n hx hy _ s hsl w h hF hn hb hp ho hq (fun w1 hw => shown_any b p _ hp h1 h.sz hst w1 hw)
end Go.Proofs.Ytibkdoomnidndaa
