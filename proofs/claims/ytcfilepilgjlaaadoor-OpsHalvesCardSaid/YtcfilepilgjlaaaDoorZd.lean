/- unpack, walked. -/
import Derived.Test.YtcfilepilgjlaaaDoorZc
import Derived.BigQuiet
namespace Go.Proofs.YtcfilepilgjlaaaDoor
open Go.RowKit

theorem unp_step_lit (c : UInt8) (r t : List UInt8) (most : Nat) (hc : c.toNat < 128) (hr : ¬ r.length < c.toNat + 1) (hm : ¬ most < t.length + (c.toNat + 1)) :
    unp (c :: r).length (c :: r) t most = unp (r.drop (c.toNat + 1)).length (r.drop (c.toNat + 1)) (t ++ r.take (c.toNat + 1)) most := by
  rw [← unp_fuel r.length (r.drop (c.toNat + 1)) _ most (by rw [List.length_drop]; omega)]
  show unp (r.length + 1) (c :: r) t most = _
  rw [unp, if_pos hc, if_neg hr, if_neg hm]
theorem unp_lit_short (c : UInt8) (r t : List UInt8) (most : Nat) (hc : c.toNat < 128) (hr : r.length < c.toNat + 1) : unp (c :: r).length (c :: r) t most = ([], 4) := by
  show unp (r.length + 1) (c :: r) t most = _
  rw [unp, if_pos hc, if_pos hr]
theorem unp_lit_long (c : UInt8) (r t : List UInt8) (most : Nat) (hc : c.toNat < 128) (hr : ¬ r.length < c.toNat + 1) (hm : most < t.length + (c.toNat + 1)) : unp (c :: r).length (c :: r) t most = ([], 2) := by
  show unp (r.length + 1) (c :: r) t most = _
  rw [unp, if_pos hc, if_neg hr, if_pos hm]
theorem unp_copy_short (c : UInt8) (r t : List UInt8) (most : Nat) (hc : ¬ c.toNat < 128) (hr : r.length < 2) : unp (c :: r).length (c :: r) t most = ([], 4) := by
  show unp (r.length + 1) (c :: r) t most = _
  rw [unp, if_neg hc, if_pos hr]
theorem unp_copy_early (c d e : UInt8) (r t : List UInt8) (most : Nat) (hc : ¬ c.toNat < 128) (ht : t.length < d.toNat + 256 * e.toNat + 1) : unp (c :: d :: e :: r).length (c :: d :: e :: r) t most = ([], 4) := by
  show unp ((d :: e :: r).length + 1) (c :: d :: e :: r) t most = _
  rw [unp, if_neg hc, if_neg (by simp)]
  exact if_pos ht
theorem unp_copy_long (c d e : UInt8) (r t : List UInt8) (most : Nat) (hc : ¬ c.toNat < 128) (ht : ¬ t.length < d.toNat + 256 * e.toNat + 1) (hm : most < t.length + (c.toNat - 125)) : unp (c :: d :: e :: r).length (c :: d :: e :: r) t most = ([], 2) := by
  show unp ((d :: e :: r).length + 1) (c :: d :: e :: r) t most = _
  rw [unp, if_neg hc, if_neg (by simp)]
  exact (if_neg ht).trans (if_pos hm)
theorem unp_copy (c d e : UInt8) (r t : List UInt8) (most : Nat) (hc : ¬ c.toNat < 128) (ht : ¬ t.length < d.toNat + 256 * e.toNat + 1) (hm : ¬ most < t.length + (c.toNat - 125)) :
    unp (c :: d :: e :: r).length (c :: d :: e :: r) t most = unp r.length r (dup t (t.length - (d.toNat + 256 * e.toNat + 1)) (c.toNat - 125)) most := by
  rw [← unp_fuel (d :: e :: r).length r _ most (by simp; omega)]
  show unp ((d :: e :: r).length + 1) (c :: d :: e :: r) t most = _
  rw [unp, if_neg hc, if_neg (by simp)]
  exact (if_neg ht).trans (if_neg hm)
theorem jz_mk {most : Nat} {w : World} {R : List UInt8 × Int} {l0 t0 : List UInt8} {v0 : Value} {wr : World} {q : ByteArray} (x2 x3 x7 x8 x9 x10 x11 x12 x13 x14 x15 x16 x17 x18 x19 x20 x21 x22 x23 x24 x25 x26 x27 x28 x29 x30 x31 x32 x33 x34 x35 x36 x37 x38 x39 x40 x41 x42 x43 x44 x45 x46 x47 x48 x49 x50 x51 x52 x53 x54 x55 x56 x57 x58 : Value) (hq : q = ⟨l0.toArray⟩) (HJ : Hid (Jz most w R l0 t0 v0 wr)) :
    ∃ (l t : List UInt8) (v : Value) (u : Nat → Value), ({ tmps := #[.string q, .int .i64 (most : Int), x2, x3, .string ⟨#[]⟩, .int .i64 0, v0, x7, x8, x9, x10, x11, x12, x13, x14, x15, x16, x17, x18, x19, x20, x21, x22, x23, x24, x25, x26, x27, x28, x29, x30, x31, x32, x33, x34, x35, x36, x37, x38, x39, x40, x41, x42, x43, x44, x45, x46, x47, x48, x49, x50, x51, x52, x53, x54, x55, x56, x57, x58], defers := [] } : Act) = { tmps := #[.string ⟨l.toArray⟩, .int .i64 (most : Int), u 2, u 3, .string ⟨#[]⟩, .int .i64 0, v, u 7, u 8, u 9, u 10, u 11, u 12, u 13, u 14, u 15, u 16, u 17, u 18, u 19, u 20, u 21, u 22, u 23, u 24, u 25, u 26, u 27, u 28, u 29, u 30, u 31, u 32, u 33, u 34, u 35, u 36, u 37, u 38, u 39, u 40, u 41, u 42, u 43, u 44, u 45, u 46, u 47, u 48, u 49, u 50, u 51, u 52, u 53, u 54, u 55, u 56, u 57, u 58], defers := [] } ∧ Hid (Jz most w R l t v wr) :=
  ⟨l0, t0, v0, fun i => match i with | 2 => x2 | 3 => x3 | 7 => x7 | 8 => x8 | 9 => x9 | 10 => x10 | 11 => x11 | 12 => x12 | 13 => x13 | 14 => x14 | 15 => x15 | 16 => x16 | 17 => x17 | 18 => x18 | 19 => x19 | 20 => x20 | 21 => x21 | 22 => x22 | 23 => x23 | 24 => x24 | 25 => x25 | 26 => x26 | 27 => x27 | 28 => x28 | 29 => x29 | 30 => x30 | 31 => x31 | 32 => x32 | 33 => x33 | 34 => x34 | 35 => x35 | 36 => x36 | 37 => x37 | 38 => x38 | 39 => x39 | 40 => x40 | 41 => x41 | 42 => x42 | 43 => x43 | 44 => x44 | 45 => x45 | 46 => x46 | 47 => x47 | 48 => x48 | 49 => x49 | 50 => x50 | 51 => x51 | 52 => x52 | 53 => x53 | 54 => x54 | 55 => x55 | 56 => x56 | 57 => x57 | 58 => x58 | _ => undef, by subst hq; rfl, HJ⟩

theorem bc_cells (l : List UInt8) : byteCells ⟨l.toArray⟩ = bc l := rfl

end Go.Proofs.YtcfilepilgjlaaaDoor
