/- numbers.Of, numbers.Valid; calls with one number. -/
import Derived.Test.YtcfilepilgjlaaaDoorKa
namespace Go.Proofs.YtcfilepilgjlaaaDoor
open Go.RowKit

/-- what bytes say, the highest first -/
def valN (l : List UInt8) : Nat := l.foldl (fun a c => 256 * a + c.toNat) 0
theorem valN_snoc (l : List UInt8) (c : UInt8) : valN (l ++ [c]) = 256 * valN l + c.toNat := by simp [valN]
theorem wrap_shl (n : Int) : IntKind.i64.wrap (IntKind.i64.wrap n * 256) = IntKind.i64.wrap (n * 256) := by
  rw [IntKind.wrap_i64, IntKind.wrap_i64, IntKind.wrap_i64]; omega
theorem wrap64_is (n : Int) : IntKind.i64.wrap n = wrap64 n := by unfold wrap64; exact IntKind.wrap_i64 n
theorem or_low (m : Nat) (c : Nat) (hc : c < 256) : bits .or .i64 (IntKind.i64.wrap ((m : Int) * 256)) (c : Int) = IntKind.i64.wrap (((256 * m + c : Nat)) : Int) := by
  show IntKind.i64.wrap ((BitVec.ofInt 64 (IntKind.i64.wrap ((m : Int) * 256)) ||| BitVec.ofInt 64 (c : Int)).toNat : Int) = _
  have h1 : (BitVec.ofInt 64 (IntKind.i64.wrap ((m : Int) * 256))).toNat = 2 ^ 8 * (m % 2 ^ 56) := by
    rw [BitVec.toNat_ofInt, IntKind.wrap_i64]
    omega
  rw [BitVec.toNat_or, h1, ofInt_i64 c (by omega), ← Nat.two_pow_add_eq_or_of_lt (i := 8) (by omega) (m % 2 ^ 56)]
  rw [IntKind.wrap_i64, IntKind.wrap_i64]
  omega

/-- a number that may be written -/
def okN (n : Int) : Bool := decide (0 ≤ n) && decide (n ≤ 1099511627776)
theorem okN_iff (n : Int) : okN n = true ↔ 0 ≤ n ∧ n ≤ 1099511627776 := by simp [okN]
set_option maxRecDepth 20000 in
set_option maxHeartbeats 1600000 in
theorem Valid_any (L : List Int) (B c : Nat) (a : Option Addr) (w : World) (hL : L.length ≤ 1000000) (hI : Ints w B a L.length L) :
    Calls Tryd.prog 32 #[.slice a L.length c] w fun e w' => e = .returned (.bool (L.all okN)) ∧ w' = w := by
  have HI := Lib.hid hI
  have HT : Hid (∀ i (h : i < L.length), (L.take (i + 1)).all okN = ((L.take i).all okN && okN (L.getD i 0)) ∧ (okN (L.getD i 0) = false → L.all okN = false)) := fun i h => by
    rw [List.take_add_one, List.getElem?_eq_getElem h, List.getD_eq_getElem?_getD, List.getElem?_eq_getElem h]
    refine ⟨by rw [List.all_append]; simp, fun hx => ?_⟩
    rw [List.all_eq_false]
    exact ⟨L[i], List.getElem_mem h, by simpa using hx⟩
  have HL : Hid ((L.take L.length).all okN = L.all okN) := by show _ = _; rw [List.take_length]
  generalize L.all okN = R at *
  clear hI
  go_enter Tryd.func32, Tryd.ntmps32
  go_wp2
  go_loopw [7] (fun i wr => ∃ k : Nat, k ≤ L.length ∧ i = .int .i64 (k : Int) ∧ Hid ((L.take k).all okN = true) ∧ Hid (wr = w)) (fun i _ => L.length - (intZ i).toNat)
  case atStart => exact ⟨0, Nat.zero_le _, rfl, rfl, rfl⟩
  case round =>
    obtain ⟨k, hk, rfl, HA, HW⟩ := hrel
    by_cases h0 : k < L.length
    · have hw := HW.out
      subst hw
      obtain ⟨g, off, rfl, hg, hc⟩ := HI.out.cell (by omega)
      have c1 := hc k h0
      have HN := Lib.hid (HT.out k h0)
      clear hc
      generalize L.getD k 0 = n at *
      by_cases h1 : n < 0
      · have HR : Hid (R = false) := HN.out.2 (by simp [okN]; omega)
        go_wp2
        go_ret
        exact ⟨by rw [HR.out]; rfl, rfl⟩
      · by_cases h2 : 1099511627776 < n
        · have HR : Hid (R = false) := HN.out.2 (by simp [okN]; omega)
          go_wp2
          go_ret
          exact ⟨by rw [HR.out]; rfl, rfl⟩
        · have HR : Hid ((L.take (k + 1)).all okN = true) := by
            show _ = _
            rw [HN.out.1, HA.out, Bool.true_and]
            exact (okN_iff n).2 ⟨by omega, by omega⟩
          go_wp2
          go_roundw
          case rel => exact ⟨k + 1, by omega, by go_num, HR, by first | exact rfl | exact trivial⟩
          case measure => simp [intZ]; omega
    · obtain rfl : k = L.length := by omega
      have HR : Hid (R = true) := by show R = true; rw [← HL.out]; exact HA.out
      go_wp2
      go_ret
      exact ⟨by rw [HR.out]; rfl, HW.out⟩
theorem ints_cells {w : World} {h : Nat} (L : List Int) (hc : ∀ i, i < L.length → w.cell? ⟨h, i, none⟩ = some (.int .i64 (L.getD i 0))) : Ints w w.heap.size (some ⟨h, 0, none⟩) L.length L :=
  ⟨rfl, fun h0 => ⟨h, 0, rfl, World.block_lt_of_cell? w _ (hc 0 h0), fun i hi => by rw [Nat.zero_add]; exact hc i hi⟩⟩
theorem Join1 (size : Nat) (n : Int) (h : Nat) (w : World) (hs : size ≤ 8) (hc : w.cell? ⟨h, 0, none⟩ = some (.int .i64 n)) :
    Calls Tryd.prog 28 #[.int .i64 (size : Int), .slice (some ⟨h, 0, none⟩) 1 1] w fun e w' => e = .returned (.string ⟨(beZ size n).toArray⟩) ∧ Upd noBlock w w' := by
  have := Join_any size [n] w.heap.size 1 (some ⟨h, 0, none⟩) w hs (by simp) (ints_cells [n] (fun i hi => by
    have : i = 0 := by simpa using hi
    subst this; exact hc)) (Nat.le_refl _)
  have e : joinZ size [n] = beZ size n := by simp [joinZ]
  rw [e] at this
  exact this
theorem Valid1 (n : Int) (h : Nat) (w : World) (hc : w.cell? ⟨h, 0, none⟩ = some (.int .i64 n)) :
    Calls Tryd.prog 32 #[.slice (some ⟨h, 0, none⟩) 1 1] w fun e w' => e = .returned (.bool (okN n)) ∧ w' = w := by
  have := Valid_any [n] w.heap.size 1 (some ⟨h, 0, none⟩) w (by simp) (ints_cells [n] (fun i hi => by
    have : i = 0 := by simpa using hi
    subst this; exact hc))
  have e : [n].all okN = okN n := by simp
  rw [e] at this
  exact this
/-- the calls as a program makes them: the one number in a new block -/
theorem Join1A (size : Nat) (hs : size ≤ 8) (z : Int) (hz : z = (size : Int)) (n : Int) (W : World) :
    Calls Tryd.prog 28 #[.int .i64 z, .slice (some ⟨W.heap.size, 0, none⟩) 1 1] (W.alloc (.cells #[.int .i64 n] 3)) fun e w' => e = .returned (.string ⟨(beZ size n).toArray⟩) ∧ Upd noBlock W w' := by
  subst hz
  have h1 := heap_alloc_new W (.cells #[.int .i64 n] 3)
  have h2 : (W.alloc (.cells #[.int .i64 n] 3)).cell? ⟨W.heap.size, 0, none⟩ = some (.int .i64 n) := by rw [cell_of h1]; rfl
  exact (Join1 size n W.heap.size _ hs h2).mono fun e w' hh => ⟨hh.1, ((Upd.refl _ _).alloc _).trans hh.2⟩
theorem Valid1A (n : Int) (W : World) :
    Calls Tryd.prog 32 #[.slice (some ⟨W.heap.size, 0, none⟩) 1 1] (W.alloc (.cells #[.int .i64 n] 3)) fun e w' => e = .returned (.bool (okN n)) ∧ Upd noBlock W w' := by
  have h1 := heap_alloc_new W (.cells #[.int .i64 n] 3)
  have h2 : (W.alloc (.cells #[.int .i64 n] 3)).cell? ⟨W.heap.size, 0, none⟩ = some (.int .i64 n) := by rw [cell_of h1]; rfl
  exact (Valid1 n W.heap.size _ h2).mono fun e w' hh => ⟨hh.1, by rw [hh.2]; exact (Upd.refl _ _).alloc _⟩
end Go.Proofs.YtcfilepilgjlaaaDoor
