/- Values: inodes and names' numbers, put and got. -/
import Derived.Test.YthlheamnfjjamaaDoorWa
import Derived.Test.YthlheamnfjjamaaDoorOb
import Derived.Test.YthlheamnfjjamaaDoorOd
import Derived.Test.YthlheamnfjjamaaDoorKk
namespace Go.Proofs.YthlheamnfjjamaaDoor
open Go.RowKit Cm
attribute [local irreducible] beZ valN Cm.shs Cm.nxt Cm.reg Cm.ext
set_option linter.unusedVariables false

def inodeV (d : Bool) (a b : Int) : Value := .agg #[.bool d, .int .i64 a, .int .i64 b]
def firL (l : List UInt8) : Nat := (l.getD 0 0).toNat
def linkL (l : List UInt8) : Int := splN 8 (l.drop 1) 0
def sizeL (l : List UInt8) : Int := splN 8 (l.drop 1) 1
def getIok (l : List UInt8) : Bool := decide (l.length = 17) && (decide (firL l ≤ 1) && (okN (linkL l) && okN (sizeL l)))
def getIV (l : List UInt8) : Value := if getIok l then inodeV (firL l == 1) (linkL l) (sizeL l) else inodeV false 0 0
def putI (d : Bool) (a b : Int) : List UInt8 := beZ 1 (if d then 1 else 0) ++ (beZ 8 a ++ beZ 8 b)
def getEok (l : List UInt8) : Bool := decide (l.length = 8) && okN (wrap64 ((valN l : Nat) : Int))
def getEV (l : List UInt8) : Int := if getEok l then wrap64 ((valN l : Nat) : Int) else 0

set_option maxRecDepth 20000 in
theorem putEntry_any (n : Int) (w : World) : Calls Tryd.prog 18 #[.int .i64 n] w fun e w' => e = .returned (.string ⟨(beZ 8 n).toArray⟩) ∧ Upd noBlock w w' := by
  have HJ := Lib.hid (Join1A 8 (by omega) 8 rfl n w)
  obtain ⟨q, hq⟩ : ∃ q : ByteArray, ⟨(beZ 8 n).toArray⟩ = q := ⟨_, rfl⟩
  rw [hq] at HJ ⊢
  clear hq
  go_enter Tryd.func18, Tryd.ntmps18
  go_wp2_with (go_at_call 38; (with_reducible refine HJ.out.mono ?_); rintro e w2 ⟨rfl, h⟩; have HX := Lib.hid h; clear h)
  go_ret
  exact ⟨rfl, HX.out⟩
set_option maxRecDepth 20000 in
theorem getEntry_any (l : List UInt8) (w : World) (hl : l.length ≤ maxLen) : Calls Tryd.prog 21 #[.string ⟨l.toArray⟩] w fun e w' => e = .returned (.tuple #[.int .i64 (getEV l), .bool (getEok l)]) ∧ Upd noBlock w w' := by
  have HO := fun W => Of_any l W hl
  have hlen : (⟨l.toArray⟩ : ByteArray).size = l.length := rfl
  obtain ⟨n, hn⟩ : ∃ n, wrap64 ((valN l : Nat) : Int) = n := ⟨_, rfl⟩
  have HE : Hid (getEok l = (decide (l.length = 8) && okN n) ∧ getEV l = if getEok l then n else 0) := by
    refine ⟨?_, ?_⟩
    · unfold getEok; rw [hn]
    · unfold getEV; rw [hn]
  rw [hn] at HO
  have HV := Lib.hid (Valid1A n w)
  obtain ⟨q, hq⟩ : ∃ q : ByteArray, ⟨l.toArray⟩ = q := ⟨_, rfl⟩
  rw [hq] at HO hlen ⊢
  have hb : l.length ≤ 9223372036854775807 := by unfold maxLen at hl; omega
  generalize getEok l = ok at *
  generalize getEV l = v at *
  generalize l.length = m at *
  replace HO := Lib.hid HO
  clear hq hn hl
  by_cases h8 : m = 8
  · have h8' : (m : Int) = 8 := by omega
    cases hk : okN n with
    | true =>
      rw [hk] at HV
      obtain ⟨e1, e2⟩ := HE.out
      rw [hk, decide_eq_true h8] at e1
      obtain rfl : ok = true := e1
      obtain rfl : v = n := e2
      go_enter Tryd.func21, Tryd.ntmps21
      go_wp2_with (first
        | (go_at_call 48; (with_reducible refine (HO.out _).mono ?_); rintro e w2 ⟨rfl, rfl⟩)
        | (go_at_call 47; (with_reducible refine HV.out.mono ?_); rintro e w3 ⟨rfl, h⟩; have HX := Lib.hid h; clear h))
      go_ret2
      exact ⟨rfl, HX.out⟩
    | false =>
      rw [hk] at HV
      obtain ⟨e1, e2⟩ := HE.out
      rw [hk, Bool.and_false] at e1
      obtain rfl : ok = false := e1
      obtain rfl : v = 0 := e2
      go_enter Tryd.func21, Tryd.ntmps21
      go_wp2_with (first
        | (go_at_call 48; (with_reducible refine (HO.out _).mono ?_); rintro e w2 ⟨rfl, rfl⟩)
        | (go_at_call 47; (with_reducible refine HV.out.mono ?_); rintro e w3 ⟨rfl, h⟩; have HX := Lib.hid h; clear h))
      go_ret2
      exact ⟨rfl, HX.out⟩
  · have h8' : ¬ (m : Int) = 8 := by omega
    obtain ⟨e1, e2⟩ := HE.out
    rw [decide_eq_false h8, Bool.false_and] at e1
    obtain rfl : ok = false := e1
    obtain rfl : v = 0 := e2
    go_enter Tryd.func21, Tryd.ntmps21
    go_wp2_with fail
    go_ret2
    exact ⟨rfl, Upd.refl _ _⟩
theorem valid2 (a b : Int) (h : Nat) (W : World) (k0 : W.cell? ⟨h, 0, none⟩ = some (.int .i64 a)) (k1 : W.cell? ⟨h, 1, none⟩ = some (.int .i64 b)) :
    Calls Tryd.prog 47 #[.slice (some ⟨h, 0, none⟩) 2 2] W fun e w' => e = .returned (.bool (okN a && okN b)) ∧ w' = W := by
  have := ValidL [a, b] (by simp) 2 rfl h W (fun i hi => by
    have : i = 0 ∨ i = 1 := by simp at hi; omega
    rcases this with rfl | rfl
    · exact k0
    · exact k1)
  simpa using this
theorem inodeInfo : (Tryd.prog.info? 41).map (·.size) = some 3 := by kernel_rfl
theorem set3 {W : World} {g : Nat} {C : Array Value} {t : TypeId} (h : W.heap[g]? = some (.cells C t (0, 0))) (hC : C.size = 3) (a b c : Value) :
    (((W.setCell ⟨g, 0, none⟩ a).setCell ⟨g, 1, none⟩ b).setCell ⟨g, 2, none⟩ c).heap[g]? = some (.cells #[a, b, c] t (0, 0)) := by
  rw [block_set (block_set (block_set h a) b) c]
  obtain ⟨L⟩ := C
  match L, hC with
  | [_, _, _], _ => rfl
theorem upd3 {w W : World} {g : Nat} (h : Upd noBlock w W) (hg : w.heap.size ≤ g) (a b c : Value) :
    Upd noBlock w (((W.setCell ⟨g, 0, none⟩ a).setCell ⟨g, 1, none⟩ b).setCell ⟨g, 2, none⟩ c) :=
  ((h.setCell (.inr hg) _).setCell (.inr hg) _).setCell (.inr hg) _
theorem fin_inode {fn : Func} {p u : Tmp} (h : fn.results = #[.cell p 41, .tmp u]) {a : Act} {W : World} {g : Nat} {k0 k1 k2 b : Value} {R : Ending → World → Prop} (hp : a.tmps.getD p undef = .pointer (some ⟨g, 0, none⟩)) (hb : a.tmps.getD u undef = b) (hd : a.defers = [])
    (hg : W.heap[g]? = some (.cells #[k0, k1, k2] 41 (0, 0))) (hR : R (.returned (.tuple #[.agg #[k0, k1, k2], b])) W) : bodyPost Tryd.prog fn R .ret a W :=
  bodyPost_ret_by (ret_cell2 h _ _ g _ #[k0, k1, k2] _ _ b hp hg Tryd.underlying41 rfl inodeInfo hb) hd hR
set_option maxRecDepth 20000 in
set_option maxHeartbeats 1600000 in
theorem getInode_any (l : List UInt8) (w : World) (hl : l.length ≤ maxLen) : Calls Tryd.prog 20 #[.string ⟨l.toArray⟩] w fun e w' => e = .returned (.tuple #[getIV l, .bool (getIok l)]) ∧ Upd noBlock w w' := by
  have hlen : (⟨l.toArray⟩ : ByteArray).size = l.length := rfl
  have hb : l.length ≤ 9223372036854775807 := by unfold maxLen at hl; omega
  have HZ : Hid ((w.alloc (.cells #[.bool false, .int .i64 0, .int .i64 0] 41)).heap[w.heap.size]? = some (.cells #[.bool false, .int .i64 0, .int .i64 0] 41 (0, 0))) := heap_alloc_new _ _
  have hc0 := fun i => cell_of HZ.out i
  have hf0 := fun i => free_of HZ.out i
  have U0 : Hid (Upd noBlock w (w.alloc (.cells #[.bool false, .int .i64 0, .int .i64 0] 41))) := (Upd.refl _ _).alloc _
  by_cases h17 : l.length = 17
  · have hx : (⟨l.toArray⟩ : ByteArray).extract 1 17 = ⟨(l.drop 1).toArray⟩ := by
      rw [ext_str, List.take_of_length_le (by rw [List.length_drop]; omega)]
    have HS := Lib.hid (fun W => SplitA 8 2 8 rfl (l.drop 1) W (by omega) (by omega) (by rw [List.length_drop]; omega) (by omega) (by omega))
    have hfir : firL l < 256 := UInt8.toNat_lt _
    have hg0 : ∀ h : 0 < (⟨l.toArray⟩ : ByteArray).size, ((⟨l.toArray⟩ : ByteArray)[0]'h).toNat = firL l := fun h => by
      show (l[0]'(by omega)).toNat = _
      unfold firL
      rw [List.getD_eq_getElem?_getD, List.getElem?_eq_getElem (by omega : 0 < l.length)]; rfl
    have HOK : Hid (getIok l = (decide (firL l ≤ 1) && (okN (linkL l) && okN (sizeL l))) ∧ getIV l = if getIok l then inodeV (firL l == 1) (linkL l) (sizeL l) else inodeV false 0 0) := ⟨by unfold getIok; rw [decide_eq_true h17, Bool.true_and], rfl⟩
    have hvs : ∀ (W : World), W.rowIs (w.heap.size + 1) 3 2 (fun j => .int .i64 (splN 8 (l.drop 1) j)) →
        (W.cell? ⟨w.heap.size + 1, 0, none⟩ = some (.int .i64 (linkL l)) ∧ W.cell? ⟨w.heap.size + 1, 1, none⟩ = some (.int .i64 (sizeL l))) ∧ Calls Tryd.prog 47 #[.slice (some ⟨w.heap.size + 1, 0, none⟩) 2 2] W fun e w' => e = .returned (.bool (okN (linkL l) && okN (sizeL l))) ∧ w' = W := fun W hW => by
      have k0 : W.cell? ⟨w.heap.size + 1, 0, none⟩ = some (.int .i64 (linkL l)) := by unfold linkL; exact hW.cell (i := 0) (by omega)
      have k1 : W.cell? ⟨w.heap.size + 1, 1, none⟩ = some (.int .i64 (sizeL l)) := by unfold sizeL; exact hW.cell (i := 1) (by omega)
      exact ⟨⟨k0, k1⟩, valid2 _ _ _ W k0 k1⟩
    have HVS := Lib.hid hvs
    clear hvs
    obtain ⟨q, hq⟩ : ∃ q : ByteArray, ⟨l.toArray⟩ = q := ⟨_, rfl⟩
    obtain ⟨qt, hqt⟩ : ∃ q : ByteArray, ⟨(l.drop 1).toArray⟩ = q := ⟨_, rfl⟩
    rw [hqt] at hx HS
    rw [hq] at hx hlen ⊢
    rw [h17] at hlen
    have hlt : 0 < q.size := by omega
    obtain ⟨hg1, hg2⟩ : (q[0]'hlt).toNat = firL l ∧ True := ⟨by subst hq; exact hg0 hlt, trivial⟩
    clear hg0 hq hqt
    generalize firL l = m at *
    generalize linkL l = a at *
    generalize sizeL l = b at *
    generalize hok : getIok l = ok at *
    generalize getIV l = v at *
    clear h17 hb hl
    by_cases hm : m ≤ 1
    · have hm' : ¬ (1 : Int) < (m : Int) := by omega
      cases hab : (okN a && okN b) with
      | false =>
        obtain ⟨e1, e2⟩ := HOK.out
        rw [hab, Bool.and_false] at e1
        subst e1
        obtain rfl : v = inodeV false 0 0 := e2
        rw [hab] at HVS
        unfold inodeV
        go_enter Tryd.func20, Tryd.ntmps20
        go_wp2_with (first
          | (go_at_call 46; (with_reducible refine (HS.out _).mono ?_); rintro e w2 ⟨rfl, hr, h⟩; rw [World.size_alloc] at hr ⊢; have HX := Lib.hid (U0.out.trans h); have HR := Lib.hid hr; have hz := h.cells HZ.out (fun h => h); have hc1 := fun i => cell_of hz i; have hf1 := fun i => free_of hz i; have HZ2 := Lib.hid hz; clear h hr hz)
          | (go_at_call 47; (with_reducible refine (HVS.out _ HR.out).2.mono ?_); rintro e w3 ⟨rfl, rfl⟩))
        exact fin_inode rfl rfl rfl rfl (set3 HZ2.out rfl _ _ _) ⟨rfl, upd3 HX.out (Nat.le_refl _) _ _ _⟩
      | true =>
        obtain ⟨e1, e2⟩ := HOK.out
        rw [hab, decide_eq_true hm] at e1
        obtain rfl : ok = true := e1
        obtain rfl : v = inodeV (m == 1) a b := e2
        rw [hab] at HVS
        have hm1 : ((m : Int) == 1) = (m == 1) := by
          by_cases h : m = 1
          · subst h; rfl
          · rw [beq_eq_false_iff_ne.2 h, beq_eq_false_iff_ne]; omega
        generalize (m == 1) = d at *
        unfold inodeV
        go_enter Tryd.func20, Tryd.ntmps20
        go_upto_region 6 with (first
          | (go_at_call 46; (with_reducible refine (HS.out _).mono ?_); rintro e w2 ⟨rfl, hr, h⟩; rw [World.size_alloc] at hr ⊢; have HX := Lib.hid (U0.out.trans h); have HR := Lib.hid hr; have hz := h.cells HZ.out (fun h => h); have hc1 := fun i => cell_of hz i; have hf1 := fun i => free_of hz i; have HZ2 := Lib.hid hz; clear h hr hz)
          | (go_at_call 47; (with_reducible refine (HVS.out _ HR.out).2.mono ?_); rintro e w3 ⟨rfl, rfl⟩))
        obtain ⟨⟨k0, k1⟩, _⟩ := HVS.out _ HR.out
        go_region
        all_goals go_wp2_with fail
        all_goals exact fin_inode rfl rfl rfl rfl (set3 HZ2.out rfl _ _ _) ⟨rfl, (upd3 HX.out (Nat.le_refl _) _ _ _).drew⟩
    · have hm' : (1 : Int) < (m : Int) := by omega
      obtain ⟨e1, e2⟩ := HOK.out
      rw [decide_eq_false hm, Bool.false_and] at e1
      subst e1
      obtain rfl : v = inodeV false 0 0 := e2
      unfold inodeV
      go_enter Tryd.func20, Tryd.ntmps20
      go_wp2_with fail
      exact fin_inode rfl rfl rfl rfl HZ.out ⟨rfl, U0.out⟩
  · obtain ⟨q, hq⟩ : ∃ q : ByteArray, ⟨l.toArray⟩ = q := ⟨_, rfl⟩
    rw [hq] at hlen ⊢
    have h17' : ¬ (l.length : Int) = 17 := by omega
    have e1 : getIok l = false := by unfold getIok; rw [decide_eq_false h17, Bool.false_and]
    have e2 : getIV l = inodeV false 0 0 := by unfold getIV; rw [e1]; rfl
    rw [e1, e2]
    clear e1 e2 h17 hq hl
    generalize l.length = n at *
    unfold inodeV
    go_enter Tryd.func20, Tryd.ntmps20
    go_wp2_with fail
    exact fin_inode rfl rfl rfl rfl HZ.out ⟨rfl, U0.out⟩
end Go.Proofs.YthlheamnfjjamaaDoor
