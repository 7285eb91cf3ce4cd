/- Labels: got. -/
import Derived.Test.YthlheamnfjjamaaDoorWf
import Derived.Test.YthlheamnfjjamaaDoorCf
namespace Go.Proofs.YthlheamnfjjamaaDoor
open Go.RowKit Cm
attribute [local irreducible] beZ valN Cm.shs Cm.nxt Cm.reg Cm.ext
set_option linter.unusedVariables false

def labV (k : Nat) (g n t : Int) : Value := .agg #[.int .u8 (k : Int), .int .i64 g, .int .i64 n, .int .i64 t]
def fstL (l : List UInt8) : Nat := (l.getD 0 0).toNat
def genL (l : List UInt8) : Int := splN 8 ((l.take 25).drop 1) 0
def numbL (l : List UInt8) : Int := splN 8 ((l.take 25).drop 1) 1
def totL (l : List UInt8) : Int := splN 8 ((l.take 25).drop 1) 2
def sumLab (l : List UInt8) : Bool := decide (((l.take 29).drop 25) = slb (ext 0 (l.take 25)))
def getLok (l : List UInt8) : Bool := decide (29 ≤ l.length) && (sumLab l && goodLab (fstL l) (genL l) (numbL l) (totL l))
def getLV (l : List UInt8) : Value := if getLok l then labV (fstL l) (genL l) (numbL l) (totL l) else labV 0 0 0 0
theorem labInfo : (Tryd.prog.info? 54).map (·.size) = some 4 := by kernel_rfl
theorem set4 {W : World} {g : Nat} {C : Array Value} {t : TypeId} (h : W.heap[g]? = some (.cells C t (0, 0))) (hC : C.size = 4) (a b c d : Value) :
    ((((W.setCell ⟨g, 0, none⟩ a).setCell ⟨g, 1, none⟩ b).setCell ⟨g, 2, none⟩ c).setCell ⟨g, 3, none⟩ d).heap[g]? = some (.cells #[a, b, c, d] t (0, 0)) := by
  rw [block_set (block_set (block_set (block_set h a) b) c) d]
  obtain ⟨L⟩ := C
  match L, hC with
  | [_, _, _, _], _ => rfl
theorem upd4 {w W : World} {g : Nat} (h : Upd noBlock w W) (hg : w.heap.size ≤ g) (a b c d : Value) :
    Upd noBlock w ((((W.setCell ⟨g, 0, none⟩ a).setCell ⟨g, 1, none⟩ b).setCell ⟨g, 2, none⟩ c).setCell ⟨g, 3, none⟩ d) :=
  (((h.setCell (.inr hg) _).setCell (.inr hg) _).setCell (.inr hg) _).setCell (.inr hg) _
theorem fin_lab {fn : Func} {p u : Tmp} (h : fn.results = #[.cell p 54, .tmp u]) {a : Act} {W : World} {g : Nat} {k0 k1 k2 k3 b : Value} {R : Ending → World → Prop} (hp : a.tmps.getD p undef = .pointer (some ⟨g, 0, none⟩)) (hb : a.tmps.getD u undef = b) (hd : a.defers = [])
    (hg : W.heap[g]? = some (.cells #[k0, k1, k2, k3] 54 (0, 0))) (hR : R (.returned (.tuple #[.agg #[k0, k1, k2, k3], b])) W) : bodyPost Tryd.prog fn R .ret a W :=
  bodyPost_ret_by (ret_cell2 h _ _ g _ #[k0, k1, k2, k3] _ _ b hp hg Tryd.underlying54 rfl labInfo hb) hd hR
theorem row3 {W : World} {g : Nat} {s : List UInt8} (h : W.rowIs g 3 3 (fun j => .int .i64 (splN 8 s j))) (a b c : Int) (ha : splN 8 s 0 = a) (hb : splN 8 s 1 = b) (hc : splN 8 s 2 = c) :
    W.cell? ⟨g, 0, none⟩ = some (.int .i64 a) ∧ W.cell? ⟨g, 1, none⟩ = some (.int .i64 b) ∧ W.cell? ⟨g, 2, none⟩ = some (.int .i64 c) := by
  subst ha hb hc
  exact ⟨h.cell (i := 0) (by omega), h.cell (i := 1) (by omega), h.cell (i := 2) (by omega)⟩
set_option maxRecDepth 20000 in
set_option maxHeartbeats 1600000 in
theorem getLabel_short (q : ByteArray) (n : Nat) (w : World) (hn : q.size = n) (h : n < 29) :
    Calls Tryd.prog 25 #[.string q] w fun e w' => e = .returned (.tuple #[labV 0 0 0 0, .bool false]) ∧ Upd noBlock w w' := by
  have HZ : Hid ((w.alloc (.cells #[.int .u8 0, .int .i64 0, .int .i64 0, .int .i64 0] 54)).heap[w.heap.size]? = some (.cells #[.int .u8 0, .int .i64 0, .int .i64 0, .int .i64 0] 54 (0, 0))) := heap_alloc_new _ _
  have hc0 := fun i => cell_of HZ.out i
  have hf0 := fun i => free_of HZ.out i
  have U0 : Hid (Upd noBlock w (w.alloc (.cells #[.int .u8 0, .int .i64 0, .int .i64 0, .int .i64 0] 54))) := (Upd.refl _ _).alloc _
  have h29 : (n : Int) < 29 := by omega
  unfold labV
  go_enter Tryd.func25, Tryd.ntmps25
  go_wp2_with fail
  exact fin_lab rfl rfl rfl rfl HZ.out ⟨rfl, U0.out⟩
set_option maxRecDepth 20000 in
set_option maxHeartbeats 1600000 in
theorem getLabel_sum (q qa qe : ByteArray) (n : Nat) (w : World) (hn : q.size = n) (h : 29 ≤ n) (hn2 : n ≤ 9223372036854775807) (hx : q.extract 0 29 = qa) (HT : Hid (∀ W, Upd noBlock w W → Tab W))
    (HO : Hid (∀ W, Tab W → Calls Tryd.prog 44 #[.string qa] W fun e w' => e = .returned (.tuple #[.string qe, .bool false]) ∧ Upd noBlock W w')) :
    Calls Tryd.prog 25 #[.string q] w fun e w' => e = .returned (.tuple #[labV 0 0 0 0, .bool false]) ∧ Upd noBlock w w' := by
  have HZ : Hid ((w.alloc (.cells #[.int .u8 0, .int .i64 0, .int .i64 0, .int .i64 0] 54)).heap[w.heap.size]? = some (.cells #[.int .u8 0, .int .i64 0, .int .i64 0, .int .i64 0] 54 (0, 0))) := heap_alloc_new _ _
  have hc0 := fun i => cell_of HZ.out i
  have hf0 := fun i => free_of HZ.out i
  have U0 : Hid (Upd noBlock w (w.alloc (.cells #[.int .u8 0, .int .i64 0, .int .i64 0, .int .i64 0] 54))) := (Upd.refl _ _).alloc _
  have h29 : ¬ (n : Int) < 29 := by omega
  unfold labV
  go_enter Tryd.func25, Tryd.ntmps25
  go_wp2_with (go_at_call 44; (with_reducible refine (HO.out _ (HT.out _ U0.out)).mono ?_); rintro e w2 ⟨rfl, h⟩; have HX := Lib.hid (U0.out.trans h); have hz := h.cells HZ.out (fun h => h); have hc1 := fun i => cell_of hz i; have hf1 := fun i => free_of hz i; have HZ2 := Lib.hid hz; clear h hz)
  exact fin_lab rfl rfl rfl rfl (set4 HZ2.out rfl _ _ _ _) ⟨rfl, upd4 HX.out (Nat.le_refl _) _ _ _ _⟩
set_option maxRecDepth 20000 in
set_option maxHeartbeats 3200000 in
theorem getLabel_open (q qa qt qr : ByteArray) (s : List UInt8) (m : Nat) (a b c : Int) (ok : Bool) (v0 v1 v2 v3 : Value) (n : Nat) (w : World) (hn : q.size = n) (h : 29 ≤ n) (hn2 : n ≤ 9223372036854775807) (hx : q.extract 0 29 = qa) (HT : Hid (∀ W, Upd noBlock w W → Tab W))
    (HO : Hid (∀ W, Tab W → Calls Tryd.prog 44 #[.string qa] W fun e w' => e = .returned (.tuple #[.string qt, .bool true]) ∧ Upd noBlock W w'))
    (hz : qt.size = 25) (hx2 : qt.extract 1 25 = qr) (h0 : 0 < qt.size) (hm : (qt[0]'h0).toNat = m)
    (HS : Hid (∀ W, Calls Tryd.prog 46 #[.int .i64 8, .string qr] W fun e w' => e = .returned (.slice (some ⟨W.heap.size, 0, none⟩) 3 3) ∧ w'.rowIs W.heap.size 3 3 (fun j => .int .i64 (splN 8 s j)) ∧ Upd noBlock W w'))
    (ha : splN 8 s 0 = a) (hb : splN 8 s 1 = b) (hc : splN 8 s 2 = c)
    (HV : Hid (∀ W, Calls Tryd.prog 49 #[.agg #[.int .u8 (m : Int), .int .i64 a, .int .i64 b, .int .i64 c]] W fun e w' => e = .returned (.bool ok) ∧ Upd noBlock W w'))
    (hV1 : ok = true → v0 = .int .u8 (m : Int) ∧ v1 = .int .i64 a ∧ v2 = .int .i64 b ∧ v3 = .int .i64 c) (hV0 : ok = false → v0 = .int .u8 0 ∧ v1 = .int .i64 0 ∧ v2 = .int .i64 0 ∧ v3 = .int .i64 0) :
    Calls Tryd.prog 25 #[.string q] w fun e w' => e = .returned (.tuple #[.agg #[v0, v1, v2, v3], .bool ok]) ∧ Upd noBlock w w' := by
  have HZ : Hid ((w.alloc (.cells #[.int .u8 0, .int .i64 0, .int .i64 0, .int .i64 0] 54)).heap[w.heap.size]? = some (.cells #[.int .u8 0, .int .i64 0, .int .i64 0, .int .i64 0] 54 (0, 0))) := heap_alloc_new _ _
  have hc0 := fun i => cell_of HZ.out i
  have hf0 := fun i => free_of HZ.out i
  have U0 : Hid (Upd noBlock w (w.alloc (.cells #[.int .u8 0, .int .i64 0, .int .i64 0, .int .i64 0] 54))) := (Upd.refl _ _).alloc _
  have h29 : ¬ (n : Int) < 29 := by omega
  have HR3 : Hid (∀ (W : World) (g : Nat), W.rowIs g 3 3 (fun j => .int .i64 (splN 8 s j)) → W.cell? ⟨g, 0, none⟩ = some (.int .i64 a) ∧ W.cell? ⟨g, 1, none⟩ = some (.int .i64 b) ∧ W.cell? ⟨g, 2, none⟩ = some (.int .i64 c)) := fun W g h => row3 h a b c ha hb hc
  have HV1 := Lib.hid hV1
  have HV0 := Lib.hid hV0
  clear ha hb hc h hV1 hV0
  have hcut : ∀ (G : Nat) (W : World), W.heap[G]? = some (.cells #[.int .u8 (m : Int), .int .i64 a, .int .i64 b, .int .i64 c] 54 (0, 0)) → ∀ i, W.cell? ⟨G, i, none⟩ = #[Value.int .u8 (m : Int), .int .i64 a, .int .i64 b, .int .i64 c][i]? := fun G W h i => cell_of h i
  have HCC := Lib.hid hcut
  clear hcut
  go_enter Tryd.func25, Tryd.ntmps25
  go_upto_region 7 with (first
    | (go_at_call 44; (with_reducible refine (HO.out _ (HT.out _ U0.out)).mono ?_); rintro e w2 ⟨rfl, h⟩; have HX := Lib.hid h; clear h)
    | (go_at_call 46; (with_reducible refine (HS.out _).mono ?_); rintro e w3 ⟨rfl, hr, h⟩; have HX := Lib.hid (HX.out.trans h); have HR := Lib.hid hr; clear h hr))
  obtain ⟨k0, k1, k2⟩ := HR3.out _ _ HR.out
  have ka := fun O => HR3.out _ _ (HR.out.of_block (((Upd.refl noBlock _).alloc O).block _ HR.out.lt (fun h => h)))
  have ka0 := fun O => (ka O).1
  have ka1 := fun O => (ka O).2.1
  have ka2 := fun O => (ka O).2.2
  clear ka
  go_cut [7] from 24 to 35 (fun x wx => ∃ g, x = .pointer (some ⟨g, 0, none⟩) ∧ Hid (wx.heap[g]? = some (.cells #[.int .u8 (m : Int), .int .i64 a, .int .i64 b, .int .i64 c] 54 (0, 0))) ∧ Hid (Upd noBlock (w.alloc (.cells #[.int .u8 0, .int .i64 0, .int .i64 0, .int .i64 0] 54)) wx))
  case first =>
    go_region
    all_goals
      go_wp2_with fail
      go_meet
      exact ⟨_, rfl, heap_alloc_new _ _, (HX.out.alloc _).drew⟩
  case rest =>
    obtain ⟨g, rfl, HG, HX⟩ := hcut
    have g1 := HCC.out _ _ HG.out
    have rz := HX.out.cells HZ.out (fun h => h)
    have rc := fun i => cell_of rz i
    have rf := fun i => free_of rz i
    have HZ2 := Lib.hid rz
    clear rz
    cases ok with
    | false =>
      obtain ⟨rfl, rfl, rfl, rfl⟩ := HV0.out rfl
      go_wp2_with (go_at_call 49; (with_reducible refine (HV.out _).mono ?_); rintro e w5 ⟨rfl, h⟩; have HY := Lib.hid (HX.out.trans h); have hz5 := h.cells HZ2.out (fun h => h); have rc5 := fun i => cell_of hz5 i; have rf5 := fun i => free_of hz5 i; have hk5 := h.cells HG.out (fun h => h); have k75 := HCC.out _ _ hk5; have HZ5 := Lib.hid hz5; clear h hz5 hk5)
      exact fin_lab rfl rfl rfl rfl (set4 HZ5.out rfl _ _ _ _) ⟨rfl, upd4 (U0.out.trans HY.out) (Nat.le_refl _) _ _ _ _⟩
    | true =>
      obtain ⟨rfl, rfl, rfl, rfl⟩ := HV1.out rfl
      go_wp2_with (go_at_call 49; (with_reducible refine (HV.out _).mono ?_); rintro e w5 ⟨rfl, h⟩; have HY := Lib.hid (HX.out.trans h); have hz5 := h.cells HZ2.out (fun h => h); have rc5 := fun i => cell_of hz5 i; have rf5 := fun i => free_of hz5 i; have hk5 := h.cells HG.out (fun h => h); have k75 := HCC.out _ _ hk5; have HZ5 := Lib.hid hz5; clear h hz5 hk5)
      exact fin_lab rfl rfl rfl rfl (set4 HZ5.out rfl _ _ _ _) ⟨rfl, upd4 (U0.out.trans HY.out) (Nat.le_refl _) _ _ _ _⟩
end Go.Proofs.YthlheamnfjjamaaDoor
