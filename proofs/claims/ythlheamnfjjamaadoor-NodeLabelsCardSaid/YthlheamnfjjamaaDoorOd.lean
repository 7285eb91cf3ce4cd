/- node.parse. -/
import Derived.Test.YthlheamnfjjamaaDoorOc
import Derived.Laws.ResultCell
namespace Go.Proofs.YthlheamnfjjamaaDoor
open Go.RowKit Cm
attribute [local irreducible] beZ valN
attribute [local go_sem ↓] Go.wp_at_zero Go.wp_at_succ

theorem ret_cell2 {P : Program} {fn : Func} {p u : Tmp} {ty : TypeId} (h : fn.results = #[.cell p ty, .tmp u]) (tmps : Array Value) (w : World) (g : Nat) (t : TypeId) (cs : Array Value) (fr : Nat × Nat) (d : TypeDesc) (b : Value)
    (hp : tmps.getD p undef = .pointer (some ⟨g, 0, none⟩)) (hg : w.heap[g]? = some (.cells cs t fr))
    (hu : P.underlying ty = some d) (hd : (match d with | .struct _ | .array _ _ => true | _ => false) = true) (hi : (P.info? ty).map (·.size) = some cs.size) (hb : tmps.getD u undef = b) :
    (results fn tmps).run P w = .ok (.tuple #[.agg cs, b]) w := by
  have hp' : tmps[p]?.getD undef = .pointer (some ⟨g, 0, none⟩) := by simpa using hp
  rw [results_cell_tmp h, hp, hb]
  simp [asAddr, Result.andThen, run_loadVar_row w g t ty cs fr d hg hu hd hi]
theorem nodeInfo : (Tryd.prog.info? 26).map (·.size) = some 5 := by kernel_rfl
theorem and1_8 (m : Nat) (h : m < 256) : bits .and .u8 (m : Int) 1 = ((m % 2 : Nat) : Int) := by
  have : ∀ x : Fin 256, bits .and .u8 ((x.val : Nat) : Int) 1 = ((x.val % 2 : Nat) : Int) := by decide +kernel
  exact this ⟨m, h⟩
theorem and2_8 (m : Nat) (h : m < 256) : bits .and .u8 (m : Int) 2 = ((2 * (m / 2 % 2) : Nat) : Int) := by
  have : ∀ x : Fin 256, bits .and .u8 ((x.val : Nat) : Int) 2 = ((2 * (x.val / 2 % 2) : Nat) : Int) := by decide +kernel
  exact this ⟨m, h⟩
def flagL (l : List UInt8) : Nat := (l.getD 1 0).toNat
def goneL (l : List UInt8) : Bool := flagL l % 2 == 1
def lastL (l : List UInt8) : Bool := flagL l / 2 % 2 == 1
def seqL (l : List UInt8) : Int := wrap64 ((valN ((l.drop 2).take 8) : Nat) : Int)
def keyL (l : List UInt8) : List UInt8 := (l.drop 13).take (klenL l)
def valL (l : List UInt8) : List UInt8 := l.drop (13 + klenL l)
def parseOk (l : List UInt8) : Bool := decide (flagL l < 4) && goodN (seqL l) (goneL l) (keyL l) (valL l)
def nodeV (seq : Int) (gone last : Bool) (k v : List UInt8) : Value := .agg #[.int .i64 seq, .bool gone, .bool last, .string ⟨k.toArray⟩, .string ⟨v.toArray⟩]
def zeroV : Value := nodeV 0 false false [] []
def parseV (l : List UInt8) : Value := if parseOk l then nodeV (seqL l) (goneL l) (lastL l) (keyL l) (valL l) else zeroV
theorem set5 {W : World} {g : Nat} {C : Array Value} {t : TypeId} (h : W.heap[g]? = some (.cells C t (0, 0))) (hC : C.size = 5) (a b c d e : Value) :
    (((((W.setCell ⟨g, 0, none⟩ a).setCell ⟨g, 1, none⟩ b).setCell ⟨g, 2, none⟩ c).setCell ⟨g, 3, none⟩ d).setCell ⟨g, 4, none⟩ e).heap[g]? = some (.cells #[a, b, c, d, e] t (0, 0)) := by
  rw [block_set (block_set (block_set (block_set (block_set h a) b) c) d) e]
  obtain ⟨L⟩ := C
  match L, hC with
  | [_, _, _, _, _], _ => rfl
theorem upd5 {w W : World} {g : Nat} (h : Upd noBlock w W) (hg : w.heap.size ≤ g) (a b c d e : Value) :
    Upd noBlock w (((((W.setCell ⟨g, 0, none⟩ a).setCell ⟨g, 1, none⟩ b).setCell ⟨g, 2, none⟩ c).setCell ⟨g, 3, none⟩ d).setCell ⟨g, 4, none⟩ e) :=
  ((((h.setCell (.inr hg) _).setCell (.inr hg) _).setCell (.inr hg) _).setCell (.inr hg) _).setCell (.inr hg) _
theorem fin_node {fn : Func} {p u : Tmp} (h : fn.results = #[.cell p 26, .tmp u]) {a : Act} {W : World} {g : Nat} {k0 k1 k2 k3 k4 b : Value} {R : Ending → World → Prop} (hp : a.tmps.getD p undef = .pointer (some ⟨g, 0, none⟩)) (hb : a.tmps.getD u undef = b) (hd : a.defers = [])
    (hg : W.heap[g]? = some (.cells #[k0, k1, k2, k3, k4] 26 (0, 0))) (hR : R (.returned (.tuple #[.agg #[k0, k1, k2, k3, k4], b])) W) : bodyPost Tryd.prog fn R .ret a W :=
  bodyPost_ret_by (ret_cell2 h _ _ g _ #[k0, k1, k2, k3, k4] _ _ b hp hg Tryd.underlying26 rfl nodeInfo hb) hd hR
end Go.Proofs.YthlheamnfjjamaaDoor
