import Derived.Test.YtjfbbnmonfankaaKIf
import Derived.Test.YtjfbbnmonfankaaKIg
import Derived.Great.BuildSlice
import Derived.Great.Ranges
import Derived.Laws.Tables
/- Encode. -/
namespace Go.Proofs.Ytjfbbnmonfankaa
open Go.RowKit Pm Gfm
attribute [local irreducible] Pm.exps pmul mp GG mpol tl tabA byteStep tailR stepsV stepS remOf textL

/-- the parity of a chunk -/
def parT (t : Nat) (l : List UInt8) : List UInt8 := textL (remOf (stepS t) l) ((13 * t + 7) / 8)
set_option maxRecDepth 100000 in
set_option maxHeartbeats 1600000 in
theorem encode_any (c t k : Nat) (s : ByteArray) (w : World) (h : CodeP w c t (k : Int)) (ht1 : 1 ≤ t) (ht8 : t ≤ 8) (hs : s.size ≤ maxLen) (hk : s.size = k) :
    Calls Try.prog 11 #[.pointer (some ⟨c, 0, none⟩), .string s] w fun e w' => e = .returned (.tuple #[.string ⟨(parT t s.data.toList).toArray⟩, .int .i64 0]) ∧ Made w' c t (k : Int) ∧ Upd (oneBlock c) w w' ∧ (Made w c t (k : Int) → Upd noBlock w w') := by
  have HR := Lib.hid (ready_any c t k w h ht1 ht8)
  have HREM := Lib.hid (fun W (hW : Made W c t (k : Int)) => remainderOf_any c t k s W hW ht1 ht8 hs)
  have HPAR := Lib.hid (fun W (hW : Made W c t (k : Int)) => parity_any c t k W hW.code ht1 ht8)
  have HTXT := Lib.hid (fun W => text_any (remOf (stepS t) s.data.toList) ((13 * t + 7) / 8) W (remOf_ok t _ ht1 ht8) (by omega))
  obtain ⟨d, hd⟩ : ∃ d, parT t s.data.toList = d := ⟨_, rfl⟩
  have hd' : textL (remOf (stepS t) s.data.toList) ((13 * t + 7) / 8) = d := hd
  rw [hd]
  rw [hd'] at HTXT
  generalize remOf (stepS t) s.data.toList = r at *
  generalize (13 * t + 7) / 8 = n at *
  have hne : ((s.size : Int) == (k : Int)) = true := beq_iff_eq.2 (by omega)
  have hne2 : ((s.size : Int) != (k : Int)) = false := by simp [hk]
  clear h hd hd'
  unfold maxLen at hs
  unfold Rm.agg at HREM HTXT
  subst hk
  go_enter Try.func11, Try.ntmps11
  go_wp2_with (first
    | (go_at_call 18; refine HR.out.mono ?_; rintro e w1 ⟨rfl, hm1, hu1, hn1⟩; have HM1 := Lib.hid hm1; have HU1 := Lib.hid hu1; have HN1 := Lib.hid hn1; have kk := HM1.out.k; clear hm1 hu1 hn1)
    | (go_at_call 19; refine (HREM.out _ HM1.out).mono ?_; rintro e w2 ⟨rfl, u2⟩; have HM2 := Lib.hid (HM1.out.keep u2); have HU2 := Lib.hid u2; clear u2)
    | (go_at_call 13; refine (HPAR.out _ HM2.out).mono ?_; rintro e w3 ⟨rfl, hm3, hu3, hn3⟩; have HM3 := Lib.hid hm3; have HU3 := Lib.hid (hn3 HM2.out); clear hm3 hu3 hn3)
    | (go_at_call 20; refine (HTXT.out _).mono ?_; rintro e w4 ⟨rfl, u4⟩; have HM4 := Lib.hid (HM3.out.keep u4); have HU4 := Lib.hid ((HU2.out.trans HU3.out).trans u4); clear u4))
  go_ret2
  exact ⟨rfl, HM4.out, HU1.out.trans HU4.out.one, fun h => (HN1.out h).trans HU4.out⟩

set_option maxRecDepth 100000 in
set_option maxHeartbeats 1600000 in
/-- data of another length -/
theorem encode_off (c t k : Nat) (s : ByteArray) (w : World) (h : CodeP w c t (k : Int)) (ht1 : 1 ≤ t) (ht8 : t ≤ 8) (hk : ¬ s.size = k) :
    Calls Try.prog 11 #[.pointer (some ⟨c, 0, none⟩), .string s] w fun e w' => e = .returned (.tuple #[.string ⟨#[]⟩, .int .i64 2]) ∧ Made w' c t (k : Int) ∧ Upd (oneBlock c) w w' ∧ (Made w c t (k : Int) → Upd noBlock w w') := by
  have HR := Lib.hid (ready_any c t k w h ht1 ht8)
  have hne : ((s.size : Int) == (k : Int)) = false := beq_eq_false_iff_ne.2 (by omega)
  have hne2 : ((s.size : Int) != (k : Int)) = true := by rw [bne, hne]; rfl
  have hne3 : ¬ (s.size : Int) = (k : Int) := by omega
  clear h hk
  go_enter Try.func11, Try.ntmps11
  go_wp2_with (first
    | (go_at_call 18; refine HR.out.mono ?_; rintro e w1 ⟨rfl, hm1, hu1, hn1⟩; have HM1 := Lib.hid hm1; have HU1 := Lib.hid hu1; have HN1 := Lib.hid hn1; have kk := HM1.out.k; clear hm1 hu1 hn1))
  go_ret2
  exact ⟨rfl, HM1.out, HU1.out, HN1.out⟩

set_option maxRecDepth 100000 in
set_option maxHeartbeats 1600000 in
/-- on no code at all -/
theorem encode_nil (s : ByteArray) (w : World) :
    Calls Try.prog 11 #[.pointer none, .string s] w fun e w' => e = .returned (.tuple #[.string ⟨#[]⟩, .int .i64 1]) ∧ Upd noBlock w w' := by
  have HR : Hid (Calls Try.prog 18 #[.pointer none] w fun e w' => e = .returned (.bool false) ∧ Upd noBlock w w') := by
    show Calls _ _ _ _ _
    go_enter Try.func18, Try.ntmps18
    go_wp2
    go_ret
    exact ⟨rfl, (Upd.refl _ _).alloc _⟩
  go_enter Try.func11, Try.ntmps11
  go_wp2_with (first
    | (go_at_call 18; refine HR.out.mono ?_; rintro e w1 ⟨rfl, hu1⟩; have HU1 := Lib.hid hu1; clear hu1))
  go_ret2
  exact ⟨rfl, HU1.out⟩
end Go.Proofs.Ytjfbbnmonfankaa

/- New. -/
namespace Go.Proofs.Ytjfbbnmonfankaa
open Go.RowKit Pm Gfm
attribute [local irreducible] Pm.exps pmul mp GG mpol tl tabA byteStep tailR stepsV stepS remOf textL
noncomputable def codeC (t k : Int) : Array Value := (Try.zeroCells67.setIfInBounds 0 (.int .i64 t)).setIfInBounds 1 (.int .i64 k)
theorem code_built (t k : Int) : Try.prog.built 67 [(0, .int .i64 t), (1, .int .i64 k)] = some (codeC t k) := by kernel_rfl
theorem codeC_size (t k : Int) : (codeC t k).size = 524 := by
  have h : (Try.zeroCells67).size = 524 := by kernel_rfl
  unfold codeC
  rw [Array.size_setIfInBounds, Array.size_setIfInBounds, h]
theorem codeC_list (t k : Int) : (codeC t k).toList.take 12 = [.int .i64 t, .int .i64 k, .int .u32 0, .int .i32 0, .int .u32 0, .int .u32 0, .int .i32 0, .int .u32 0, .slice none 0 0, .slice none 0 0, .int .i64 0, .int .i64 0] := by kernel_rfl
theorem codeC_get (t k : Int) (j : Nat) (hj : j < 12) : (codeC t k)[j]? = [Value.int .i64 t, .int .i64 k, .int .u32 0, .int .i32 0, .int .u32 0, .int .u32 0, .int .i32 0, .int .u32 0, .slice none 0 0, .slice none 0 0, .int .i64 0, .int .i64 0][j]? := by
  rw [← codeC_list t k, List.getElem?_take, if_pos hj, Array.getElem?_toList]
attribute [local irreducible] codeC
theorem code_raw {w : World} {c t : Nat} {k : Int} (h : w.heap[c]? = some (.cells (codeC (t : Int) k) 67 (0, 0))) : Raw w c t k := by
  refine ⟨(codeC (t : Int) k).extract 12 524, by rw [Array.size_extract, codeC_size]; rfl, .inl ⟨_, h, codeC_get _ _ 5 (by omega), codeC_get _ _ 6 (by omega), codeC_get _ _ 7 (by omega), codeC_get _ _ 8 (by omega), codeC_get _ _ 9 (by omega), codeC_get _ _ 10 (by omega), fun j hj => ?_⟩⟩
  have hj' : j < 5 ∨ 5 + 6 ≤ j := hj
  show (codeC (t : Int) k)[j]? = cR (t : Int) k (.int .u32 0) (.int .i32 0) 0 _ j
  by_cases h12 : 12 ≤ j
  · unfold cR
    rw [if_neg (by omega), if_neg (by omega), if_neg (by omega), if_neg (by omega), if_neg (by omega), if_neg (by omega), if_pos h12, Array.getElem?_extract]
    have hs := codeC_size (t : Int) k
    by_cases hb : j < 524
    · rw [if_pos (by omega), show 12 + (j - 12) = j by omega]
    · rw [if_neg (by omega)]; exact Array.getElem?_eq_none (by omega)
  · rw [codeC_get _ _ j (by omega)]
    obtain rfl | rfl | rfl | rfl | rfl | rfl : j = 0 ∨ j = 1 ∨ j = 2 ∨ j = 3 ∨ j = 4 ∨ j = 11 := by omega
    all_goals rfl
theorem code_raw' {w : World} {c t : Nat} {k : Int} (h : w.heap[c]? = some (.cells ((Try.zeroCells67.setIfInBounds 0 (.int .i64 (t : Int))).setIfInBounds 1 (.int .i64 k)) 67 (0, 0))) : Raw w c t k := code_raw (by unfold codeC; exact h)
set_option maxRecDepth 100000 in
set_option maxHeartbeats 1600000 in
theorem new_any (t k : Nat) (w : World) (ht1 : 1 ≤ t) (ht8 : t ≤ 8) (hk1 : 1 ≤ k) (hk2 : k ≤ 256) :
    Calls Try.prog 9 #[.int .i64 (t : Int), .int .i64 (k : Int)] w fun e w' => e = .returned (.tuple #[.pointer (some ⟨w.heap.size, 0, none⟩), .int .i64 0]) ∧ Raw w' w.heap.size t (k : Int) ∧ Upd noBlock w w' := by
  have t1 : decide ((t : Int) < 1) = false := decide_eq_false (by omega)
  have t2 : decide ((8 : Int) < (t : Int)) = false := decide_eq_false (by omega)
  have t3 : decide ((k : Int) < 1) = false := decide_eq_false (by omega)
  have t4 : decide ((256 : Int) < (k : Int)) = false := decide_eq_false (by omega)
  go_enter Try.func9, Try.ntmps9
  go_wp2_with (first
    | (refine wpList_buildTo rfl 67 _ rfl _ rfl (codeC (t : Int) (k : Int)) (code_built _ _) ?_)
    | (refine wpList_boxTo rfl 67 _ rfl _ rfl w.heap.size rfl (codeC (t : Int) (k : Int)) rfl ?_))
  go_ret2
  exact ⟨rfl, code_raw' (heap_alloc_new w _), (Upd.refl _ _).alloc _⟩
set_option maxRecDepth 100000 in
set_option maxHeartbeats 1600000 in
/-- out of bounds -/
theorem new_off (t k : Int) (w : World) (h : t < 1 ∨ 8 < t ∨ k < 1 ∨ 256 < k) :
    Calls Try.prog 9 #[.int .i64 t, .int .i64 k] w fun e w' => e = .returned (.tuple #[.pointer none, .int .i64 1]) ∧ w = w' := by
  have hor : (decide (t < 1) || decide (8 < t) || decide (k < 1) || decide (256 < k)) = true := by simp; omega
  by_cases t1 : t < 1
  · have c1 : decide (t < 1) = true := decide_eq_true t1
    go_enter Try.func9, Try.ntmps9
    go_wp2
    go_ret2
    exact ⟨rfl, rfl⟩
  · have c1 : decide (t < 1) = false := decide_eq_false t1
    by_cases t2 : 8 < t
    · have c2 : decide (8 < t) = true := decide_eq_true t2
      go_enter Try.func9, Try.ntmps9
      go_wp2
      go_ret2
      exact ⟨rfl, rfl⟩
    · have c2 : decide (8 < t) = false := decide_eq_false t2
      by_cases t3 : k < 1
      · have c3 : decide (k < 1) = true := decide_eq_true t3
        go_enter Try.func9, Try.ntmps9
        go_wp2
        go_ret2
        exact ⟨rfl, rfl⟩
      · have c3 : decide (k < 1) = false := decide_eq_false t3
        have t4 : 256 < k := by omega
        have c4 : decide (256 < k) = true := decide_eq_true t4
        go_enter Try.func9, Try.ntmps9
        go_wp2
        go_ret2
        exact ⟨rfl, rfl⟩
end Go.Proofs.Ytjfbbnmonfankaa
