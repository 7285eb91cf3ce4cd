/- Small lemmas: a world that is another but for some blocks; cells of a block known whole; bits of int. -/
import Derived.Below
import Derived.Deep.Draws
import Derived.Laws.Rows
import Derived.Laws.NewBlocks
import Derived.Laws.Bits64
import Derived.Laws.BitsAllLaws
import Derived.ChangeSame
import Derived.WalkKit
namespace Go.Proofs.YthcjogigkagmdaaGreatDoor
open Go.RowKit Go.WideShapes Go.ChangeShapes

/-- w' is w with new blocks; of the old ones those in R alone may have been written -/
structure Upd (R : Nat → Prop) (w w' : World) : Prop where
  os : w'.os = w.os
  tape : w'.tape = w.tape
  output : w'.output = w.output
  size : w.heap.size ≤ w'.heap.size
  block : ∀ k, k < w.heap.size → ¬ R k → w'.heap[k]? = w.heap[k]?

def noBlock : Nat → Prop := fun _ => False
def oneBlock (b : Nat) : Nat → Prop := fun k => k = b

theorem Upd.refl (R : Nat → Prop) (w : World) : Upd R w w := ⟨rfl, rfl, rfl, Nat.le_refl _, fun _ _ _ => rfl⟩
theorem Upd.trans {R : Nat → Prop} {a b c : World} (h : Upd R a b) (k : Upd R b c) : Upd R a c :=
  ⟨k.os.trans h.os, k.tape.trans h.tape, k.output.trans h.output, Nat.le_trans h.size k.size, fun i hi hn => (k.block i (Nat.lt_of_lt_of_le hi h.size) hn).trans (h.block i hi hn)⟩
theorem Upd.mono {R R' : Nat → Prop} {a b : World} (h : Upd R a b) (hr : ∀ k, k < a.heap.size → R k → R' k) : Upd R' a b :=
  ⟨h.os, h.tape, h.output, h.size, fun i hi hn => h.block i hi (fun hh => hn (hr i hi hh))⟩
/-- what comes after may write new blocks too -/
theorem Upd.step {R R' : Nat → Prop} {a b c : World} (h : Upd R a b) (k : Upd R' b c) (hr : ∀ i, i < a.heap.size → R' i → R i) : Upd R a c :=
  ⟨k.os.trans h.os, k.tape.trans h.tape, k.output.trans h.output, Nat.le_trans h.size k.size, fun i hi hn => (k.block i (Nat.lt_of_lt_of_le hi h.size) (fun hh => hn (hr i hi hh))).trans (h.block i hi hn)⟩
theorem Upd.drew {R : Nat → Prop} {a w : World} (h : Upd R a w) : Upd R a w.drew := ⟨h.os, h.tape, h.output, h.size, h.block⟩
theorem Upd.drewN {R : Nat → Prop} {a w : World} (h : Upd R a w) (n : Nat) : Upd R a (w.drewN n) := ⟨h.os, h.tape, h.output, h.size, h.block⟩
theorem Upd.alloc {R : Nat → Prop} {a w : World} (h : Upd R a w) (o : Obj) : Upd R a (w.alloc o) :=
  ⟨h.os, h.tape, h.output, Nat.le_trans h.size (by simp), fun i hi hn => (Below.heap_alloc w o i (Nat.lt_of_lt_of_le hi h.size)).trans (h.block i hi hn)⟩
theorem Upd.setCell {R : Nat → Prop} {a w : World} (h : Upd R a w) {p : Addr} (hp : R p.block ∨ a.heap.size ≤ p.block) (u : Value) : Upd R a (w.setCell p u) :=
  ⟨h.os, h.tape, h.output, by simpa [World.setCell] using h.size, fun i hi hn => (Below.heap_setCell w p u i (by
    rintro rfl
    rcases hp with hp | hp
    · exact hn hp
    · omega)).trans (h.block i hi hn)⟩
theorem Upd.below {R : Nat → Prop} {a w : World} (h : Upd R a w) (hr : ∀ k, k < a.heap.size → ¬ R k) : Below a.heap.size a w :=
  ⟨h.os, h.tape, h.output, h.size, fun k hk => h.block k hk (hr k hk)⟩
theorem Upd.of_below {a w : World} (h : Below a.heap.size a w) (R : Nat → Prop) : Upd R a w := ⟨h.os, h.tape, h.output, h.size, fun i hi _ => h.block i hi⟩
theorem Upd.cells {R : Nat → Prop} {a w : World} (h : Upd R a w) {b : Nat} {c : Array Value} {t : TypeId} {z : Nat × Nat} (hb : a.heap[b]? = some (.cells c t z)) (hr : ¬ R b) : w.heap[b]? = some (.cells c t z) :=
  (h.block b (Array.getElem?_eq_some_iff.1 hb).1 hr).trans hb

theorem lt_of_block {w : World} {b : Nat} {o : Obj} (hb : w.heap[b]? = some o) : b < w.heap.size := (Array.getElem?_eq_some_iff.1 hb).1
theorem cell_of {w : World} {b : Nat} {c : Array Value} {t : TypeId} {z : Nat × Nat} (hb : w.heap[b]? = some (.cells c t z)) (i : Nat) : w.cell? ⟨b, i, none⟩ = c[i]? := by
  simp [World.cell?, hb]
theorem free_of {w : World} {b : Nat} {c : Array Value} {t : TypeId} (hb : w.heap[b]? = some (.cells c t (0, 0))) (i : Nat) : w.frozen? ⟨b, i, none⟩ = false := by
  simp [World.frozen?, hb]
theorem block_set {w : World} {b i : Nat} {c : Array Value} {t : TypeId} {z : Nat × Nat} (hb : w.heap[b]? = some (.cells c t z)) (v : Value) :
    (w.setCell ⟨b, i, none⟩ v).heap[b]? = some (.cells (c.setIfInBounds i v) t z) := by
  simp [World.setCell, Array.getElem?_modify, hb]
theorem block_set_other {w : World} {b : Nat} {a : Addr} {o : Obj} (hb : w.heap[b]? = some o) (h : ¬ b = a.block) (v : Value) : (w.setCell a v).heap[b]? = some o :=
  (Below.heap_setCell w a v b h).trans hb
theorem block_alloc {w : World} {b : Nat} {o : Obj} (hb : w.heap[b]? = some o) (o' : Obj) : (w.alloc o').heap[b]? = some o :=
  (Below.heap_alloc w o' b (lt_of_block hb)).trans hb

/-- what is known of a slice of integers that came in -/
def IsRow (k : IntKind) (w : World) (a : Option Addr) (len cap : Nat) (zs : List Int) : Prop :=
  (a = none ∧ len = 0 ∧ cap = 0 ∧ zs = []) ∨
  ∃ x, a = some x ∧ len ≤ cap ∧ cap ≤ maxLen ∧ zs.length = cap ∧ (∀ i, i < zs.length → w.cell? (x.add i) = some (.int k (zs.getD i 0))) ∧ ∀ n ∈ zs, (Lit.int k n).wf = true

/-- a slice of int that reads as xs and lies below block B -/
def Ints (w : World) (B : Nat) (a : Option Addr) (n : Nat) (xs : List Int) : Prop :=
  xs.length = n ∧ (0 < n → ∃ g off, a = some ⟨g, off, none⟩ ∧ g < B ∧ ∀ i, i < n → w.cell? ⟨g, off + i, none⟩ = some (.int .i64 (xs.getD i 0)))
theorem Ints.keep {w w' : World} {B n : Nat} {a : Option Addr} {xs : List Int} (h : Ints w B a n xs) (hk : ∀ g, a.map Addr.block = some g → g < B → w'.heap[g]? = w.heap[g]?) : Ints w' B a n xs := by
  refine ⟨h.1, fun hn => ?_⟩
  obtain ⟨g, off, rfl, hg, hc⟩ := h.2 hn
  exact ⟨g, off, rfl, hg, fun i hi => (World.cell?_of_block (hk g rfl hg)).trans (hc i hi)⟩
theorem Ints.more {w : World} {B B' n : Nat} {a : Option Addr} {xs : List Int} (h : Ints w B a n xs) (hB : B ≤ B') : Ints w B' a n xs := by
  refine ⟨h.1, fun hn => ?_⟩
  obtain ⟨g, off, rfl, hg, hc⟩ := h.2 hn
  exact ⟨g, off, rfl, by omega, hc⟩
theorem Ints.upd {w w' : World} {B n : Nat} {a : Option Addr} {xs : List Int} (h : Ints w B a n xs) {R : Nat → Prop} (hu : Upd R w w') (hB : B ≤ w.heap.size) (hR : ∀ g, a.map Addr.block = some g → g < B → ¬ R g) : Ints w' B a n xs :=
  h.keep fun g hg hgB => hu.block g (by omega) (hR g hg hgB)
theorem Ints.grow {w w' : World} {B n : Nat} {a : Option Addr} {xs : List Int} (h : Ints w B a n xs) (hu : Upd noBlock w w') (hB : B ≤ w.heap.size) : Ints w' B a n xs :=
  h.upd hu hB (fun _ _ _ h => h)
theorem Ints.cell {w : World} {B n : Nat} {a : Option Addr} {xs : List Int} (h : Ints w B a n xs) (h0 : 0 < n) :
    ∃ g off, a = some ⟨g, off, none⟩ ∧ g < B ∧ ∀ i, i < n → w.cell? ⟨g, off + i, none⟩ = some (.int .i64 (xs.getD i 0)) := h.2 h0
theorem IsRow.ints {w : World} {a : Option Addr} {len cap : Nat} {zs : List Int} (h : IsRow .i64 w a len cap zs) : Ints w w.heap.size a len (zs.take len) ∧ len ≤ maxLen := by
  rcases h with ⟨rfl, rfl, rfl, rfl⟩ | ⟨⟨g, off, spot⟩, rfl, h1, h2, h3, h4, _⟩
  · exact ⟨⟨rfl, fun h => absurd h (by omega)⟩, Nat.zero_le _⟩
  · refine ⟨⟨by rw [List.length_take]; omega, fun h0 => ?_⟩, by omega⟩
    have hc := h4 0 (by omega)
    have hs : spot = none := by simpa [Addr.add] using World.cell?_spot hc
    subst hs
    refine ⟨g, off, rfl, World.block_lt_of_cell? w _ hc, fun i hi => ?_⟩
    have := h4 i (by omega)
    have e : (zs.take len).getD i 0 = zs.getD i 0 := by
      rw [List.getD_eq_getElem?_getD, List.getD_eq_getElem?_getD, List.getElem?_take, if_pos hi]
    rw [e]
    by_cases e0 : i = 0
    · subst e0; simpa [Addr.add] using this
    · simpa [Addr.add, e0] using this

/-! bits of int -/
theorem ofInt_i64 (a : Nat) (ha : a < 9223372036854775808) : (BitVec.ofInt 64 (a : Int)).toNat = a := by
  rw [BitVec.ofInt_natCast, BitVec.toNat_ofNat]; exact Nat.mod_eq_of_lt (by omega)
theorem wrap_i64_nat (a : Nat) (ha : a < 9223372036854775808) : IntKind.i64.wrap (a : Int) = (a : Int) := by
  rw [IntKind.wrap_i64]; omega
theorem i64_xor_nat (a b : Nat) (ha : a < 9223372036854775808) (hb : b < 9223372036854775808) : bits .xor .i64 (a : Int) (b : Int) = ((a ^^^ b : Nat) : Int) := by
  have hx : a ^^^ b < 2 ^ 63 := Nat.xor_lt_two_pow (by omega) (by omega)
  show IntKind.i64.wrap ((BitVec.ofInt 64 (a : Int) ^^^ BitVec.ofInt 64 (b : Int)).toNat : Int) = _
  rw [BitVec.toNat_xor, ofInt_i64 a ha, ofInt_i64 b hb]
  exact wrap_i64_nat _ hx
theorem i64_and_nat (a b : Nat) (ha : a < 9223372036854775808) (hb : b < 9223372036854775808) : bits .and .i64 (a : Int) (b : Int) = ((a &&& b : Nat) : Int) := by
  have hx : a &&& b < 2 ^ 63 := Nat.and_lt_two_pow _ (by omega)
  show IntKind.i64.wrap ((BitVec.ofInt 64 (a : Int) &&& BitVec.ofInt 64 (b : Int)).toNat : Int) = _
  rw [BitVec.toNat_and, ofInt_i64 a ha, ofInt_i64 b hb]
  exact wrap_i64_nat _ hx
theorem i64_or_nat (a b : Nat) (ha : a < 9223372036854775808) (hb : b < 9223372036854775808) : bits .or .i64 (a : Int) (b : Int) = ((a ||| b : Nat) : Int) := by
  have hx : a ||| b < 2 ^ 63 := Nat.or_lt_two_pow (by omega) (by omega)
  show IntKind.i64.wrap ((BitVec.ofInt 64 (a : Int) ||| BitVec.ofInt 64 (b : Int)).toNat : Int) = _
  rw [BitVec.toNat_or, ofInt_i64 a ha, ofInt_i64 b hb]
  exact wrap_i64_nat _ hx
/-- a mask of the lowest k bits -/
theorem i64_mask (n : Int) (k : Nat) (hk : k < 63) : bits .and .i64 n ((2 ^ k - 1 : Nat) : Int) = n % ((2 ^ k : Nat) : Int) := by
  have hp : 2 ^ k < 2 ^ 63 := Nat.pow_lt_pow_right (by omega) hk
  have hm : (BitVec.ofInt 64 ((2 ^ k - 1 : Nat) : Int)).toNat = 2 ^ k - 1 := ofInt_i64 _ (by omega)
  have hd : ((2 ^ k : Nat) : Int) ∣ ((2 ^ 64 : Nat) : Int) := by exact_mod_cast Nat.pow_dvd_pow 2 (by omega)
  have key : (BitVec.ofInt 64 n &&& BitVec.ofInt 64 ((2 ^ k - 1 : Nat) : Int)).toNat = (n % ((2 ^ 64 : Nat) : Int)).toNat % 2 ^ k := by
    rw [BitVec.toNat_and, BitVec.toNat_ofInt, hm, Nat.and_two_pow_sub_one_eq_mod]
  show IntKind.i64.wrap ((BitVec.ofInt 64 n &&& BitVec.ofInt 64 ((2 ^ k - 1 : Nat) : Int)).toNat : Nat) = _
  rw [key]
  have hpos : 0 < 2 ^ k := Nat.two_pow_pos k
  have hlt := Nat.mod_lt (n % ((2 ^ 64 : Nat) : Int)).toNat hpos
  rw [wrap_i64_nat _ (by omega)]
  have h0 : 0 ≤ n % ((2 ^ 64 : Nat) : Int) := Int.emod_nonneg _ (by decide)
  rw [Int.natCast_emod, Int.toNat_of_nonneg h0]
  exact Int.emod_emod_of_dvd n hd
theorem i64_8191 (n : Int) : bits .and .i64 n 8191 = n % 8192 := i64_mask n 13 (by omega)
end Go.Proofs.YthcjogigkagmdaaGreatDoor
