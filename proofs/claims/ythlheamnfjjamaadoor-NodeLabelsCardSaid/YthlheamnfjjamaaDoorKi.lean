/- key.Range; key.Decode. -/
import Derived.Test.YthlheamnfjjamaaDoorKh
import Derived.Test.YthlheamnfjjamaaDoorShelf
import Derived.Laws.ResultCell
namespace Go.Proofs.YthlheamnfjjamaaDoor
open Go.RowKit
attribute [local irreducible] beZ valN
attribute [local go_sem ↓] Go.wp_at_zero Go.wp_at_succ

theorem ret_cell2K {P : Program} {fn : Func} {p u : Tmp} {ty : TypeId} (h : fn.results = #[.cell p ty, .tmp u]) (tmps : Array Value) (w : World) (g : Nat) (t : TypeId) (cs : Array Value) (fr : Nat × Nat) (d : TypeDesc) (b : Value)
    (hp : tmps.getD p undef = .pointer (some ⟨g, 0, none⟩)) (hg : w.heap[g]? = some (.cells cs t fr))
    (hu : P.underlying ty = some d) (hd : (match d with | .struct _ | .array _ _ => true | _ => false) = true) (hi : (P.info? ty).map (·.size) = some cs.size) (hb : tmps.getD u undef = b) :
    (results fn tmps).run P w = .ok (.tuple #[.agg cs, b]) w := by
  have hp' : tmps[p]?.getD undef = .pointer (some ⟨g, 0, none⟩) := by simpa using hp
  rw [results_cell_tmp h, hp, hb]
  simp [asAddr, Result.andThen, run_loadVar_row w g t ty cs fr d hg hu hd hi]

def kindOk (k : Int) : Bool := decide (1 ≤ k) && decide (k ≤ 3)
/-- what a text says, read as a key -/
def numL (l : List UInt8) : Int := wrap64 ((valN (l.take 8) : Nat) : Int)
def kindL (l : List UInt8) : Int := ((l.getD 8 0).toNat : Int)
def nameL (l : List UInt8) : List UInt8 := if kindL l = 2 then l.drop 9 else []
def pieceL (l : List UInt8) : Int := if kindL l = 3 then wrap64 ((valN (l.drop 9) : Nat) : Int) else 0
def decOk (l : List UInt8) : Bool := decide (9 ≤ l.length) && (goodK (numL l) (kindL l) (nameL l) (pieceL l) && (encK (numL l) (kindL l) (nameL l) (pieceL l) == l))
def keyV (n k : Int) (s : List UInt8) (p : Int) : Value := .agg #[.int .i64 n, .int .i64 k, .string ⟨s.toArray⟩, .int .i64 p]
def decV (l : List UInt8) : Value := if decOk l then keyV (numL l) (kindL l) (nameL l) (pieceL l) else keyV 0 0 [] 0
theorem keyInfo : (Tryd.prog.info? 79).map (·.size) = some 4 := by kernel_rfl
theorem clone_anyK (s : ByteArray) (w : World) (hs : s.size ≤ 281474976710656) :
    Calls Tryd.prog 58 #[.string s] w fun e w' => e = .returned (.string s) ∧ Upd noBlock w w' := by
  have H := Tryd.stringslite_Clone s w hs
  go_enter Tryd.func58, Tryd.ntmps58
  go_wp2_with fail
  refine H.mono ?_
  rintro e w1 ⟨rfl, hb⟩
  have HB := Lib.hid hb
  clear H hb
  go_wp2_with fail
  go_ret
  exact ⟨rfl, Upd.of_below HB.out _⟩
/-- behind the world w: the key that is answered (zero yet) and the key that is read -/
structure TB (w W : World) (K : Array Value) : Prop where
  z : W.heap[w.heap.size]? = some (.cells #[.int .i64 0, .int .i64 0, .string ⟨#[]⟩, .int .i64 0] 79 (0, 0))
  k : W.heap[w.heap.size + 1]? = some (.cells K 79 (0, 0))
  u : Upd noBlock w W
theorem TB.new (w : World) (K : Array Value) : TB w ((w.alloc (.cells #[.int .i64 0, .int .i64 0, .string ⟨#[]⟩, .int .i64 0] 79)).alloc (.cells K 79)).drew K :=
  ⟨block_alloc (heap_alloc_new w _) _, heap_alloc2_new w _ _, (((Upd.refl _ _).alloc _).alloc _).drew⟩
theorem TB.upd {w W W' : World} {K : Array Value} (h : TB w W K) (hu : Upd noBlock W W') : TB w W' K :=
  ⟨hu.cells h.z (fun h => h), hu.cells h.k (fun h => h), h.u.trans hu⟩
theorem TB.set {w W : World} {K : Array Value} (h : TB w W K) (i : Nat) (v : Value) : TB w (W.setCell ⟨w.heap.size + 1, i, none⟩ v) (K.setIfInBounds i v) :=
  ⟨block_set_other h.z (by show ¬ w.heap.size = w.heap.size + 1; omega) _, block_set h.k v, h.u.setCell (.inr (Nat.le_succ _)) _⟩
theorem TB.facts {w W : World} {K : Array Value} (h : TB w W K) : (∀ i, W.cell? ⟨w.heap.size + 1, i, none⟩ = K[i]?) ∧ (∀ i, W.frozen? ⟨w.heap.size + 1, i, none⟩ = false) ∧ (∀ i, W.frozen? ⟨w.heap.size, i, none⟩ = false) ∧ (∀ i, W.cell? ⟨w.heap.size, i, none⟩ = #[Value.int .i64 0, .int .i64 0, .string ⟨#[]⟩, .int .i64 0][i]?) :=
  ⟨fun i => cell_of h.k i, fun i => free_of h.k i, fun i => free_of h.z i, fun i => cell_of h.z i⟩
theorem TB.done {w W : World} {K : Array Value} (h : TB w W K) (a b c d : Value) :
    ((((W.setCell ⟨w.heap.size, 0, none⟩ a).setCell ⟨w.heap.size, 1, none⟩ b).setCell ⟨w.heap.size, 2, none⟩ c).setCell ⟨w.heap.size, 3, none⟩ d).heap[w.heap.size]? = some (.cells #[a, b, c, d] 79 (0, 0)) ∧
    Upd noBlock w ((((W.setCell ⟨w.heap.size, 0, none⟩ a).setCell ⟨w.heap.size, 1, none⟩ b).setCell ⟨w.heap.size, 2, none⟩ c).setCell ⟨w.heap.size, 3, none⟩ d) :=
  ⟨block_set (block_set (block_set (block_set h.z a) b) c) d, (((h.u.setCell (.inr (Nat.le_refl _)) _).setCell (.inr (Nat.le_refl _)) _).setCell (.inr (Nat.le_refl _)) _).setCell (.inr (Nat.le_refl _)) _⟩
theorem fin_key {fn : Func} {p u : Tmp} (h : fn.results = #[.cell p 79, .tmp u]) {a : Act} {W : World} {g : Nat} {k0 k1 k2 k3 b : Value} {R : Ending → World → Prop} (hp : a.tmps.getD p undef = .pointer (some ⟨g, 0, none⟩)) (hb : a.tmps.getD u undef = b) (hd : a.defers = [])
    (hg : W.heap[g]? = some (.cells #[k0, k1, k2, k3] 79 (0, 0))) (hR : R (.returned (.tuple #[.agg #[k0, k1, k2, k3], b])) W) : bodyPost Tryd.prog fn R .ret a W :=
  bodyPost_ret_by (ret_cell2K h _ _ g _ #[k0, k1, k2, k3] _ _ b hp hg Tryd.underlying79 rfl keyInfo hb) hd hR
end Go.Proofs.YthlheamnfjjamaaDoor
