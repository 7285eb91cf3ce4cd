/- The laws of layer 1, walked: products, logarithms, values. -/
import Derived.Test.YtfahibnbfinibaaGfw
import Derived.Test.YtfahibnbfinibaaApp
namespace Go.Proofs.Ytfahibnbfinibaa
open Go.RowKit Gfm

theorem Upd.new {a b c : World} {k : Nat} (h : Upd noBlock a b) (g : Upd (oneBlock k) b c) (hk : a.heap.size ≤ k) : Upd noBlock a c :=
  h.step g (fun i hi e => by have e' : i = k := e; omega)
theorem Upd.ends {a b : World} (h : Upd noBlock a b) : Below a.heap.size a b := h.below (fun _ _ h => h)
theorem rMul_low (a b : Int) (w : World) :
    Calls Try.prog 18 #[.int .i64 a, .int .i64 b] w fun e w' => e = .returned (.int .i64 (mul (low a) (low b) : Nat)) ∧ w = w' := rMul_any a b w
theorem rInv_low (a : Int) (w : World) :
    Calls Try.prog 19 #[.int .i64 a] w fun e w' => e = .returned (.int .i64 (invN (low a) : Nat)) ∧ w = w' := by
  rw [invN_invR _ (low_lt a)]; exact rInv_any a w
theorem rLow_low (a : Int) (w : World) :
    Calls Try.prog 20 #[.int .i64 a] w fun e w' => e = .returned (.int .i64 (low a : Nat)) ∧ w = w' := rLow_any a w
theorem fld2 (w : World) : Fld ((w.alloc (.cells #[.int .u32 0, .int .i32 0, .int .u32 0, .slice none 0 0, .slice none 0 0, .int .i64 0] 40)).alloc (.cells #[.int .u32 0, .int .i32 0, .int .u32 0, .slice none 0 0, .slice none 0 0, .int .i64 0] 40)) w.heap.size 0 ∧
    Fld ((w.alloc (.cells #[.int .u32 0, .int .i32 0, .int .u32 0, .slice none 0 0, .slice none 0 0, .int .i64 0] 40)).alloc (.cells #[.int .u32 0, .int .i32 0, .int .u32 0, .slice none 0 0, .slice none 0 0, .int .i64 0] 40)) (w.heap.size + 1) 0 := by
  refine ⟨(fresh_new w).alloc _, ?_⟩
  have := fresh_new (w.alloc (.cells #[.int .u32 0, .int .i32 0, .int .u32 0, .slice none 0 0, .slice none 0 0, .int .i64 0] 40))
  rw [World.size_alloc] at this
  exact this

set_option maxRecDepth 100000 in
set_option maxHeartbeats 1600000 in
theorem gfProducts_walk (a b : Int) (w : World) (_wa : (Lit.int .i64 a).wf = true) (_wn : (Lit.int .i64 b).wf = true) :
    Calls Try.prog 3 #[.int .i64 a, .int .i64 b] w fun e w' => e = .returned (.bool true) ∧ Below w.heap.size w w' := by
  have hnot : ∀ (x : Bool) (w : World), (Op.unary .not (.bool x)).run Try.prog w = .ok (.bool (!x)) w := fun _ _ => rfl
  have HC := Lib.hid (mul_comm (low b) (low a) (low_lt b) (low_lt a))
  by_cases ha : low a = 0
  · have HA := Lib.hid ha
    have hi : invN (low a) = 0 := by rw [ha]; rfl
    have HI := Lib.hid hi
    clear ha hi
    go_enter Try.func3, Try.ntmps3
    go_wp2_with fail
    refine (speaks_any _).mono ?_
    rintro e w1 ⟨rfl, HU0⟩
    obtain ⟨hf, hg⟩ := fld2 w1
    have HF := Lib.hid hf
    have HG := Lib.hid hg
    have HU := Lib.hid (((HU0.alloc (.cells #[.int .u32 0, .int .i32 0, .int .u32 0, .slice none 0 0, .slice none 0 0, .int .i64 0] 40)).alloc (.cells #[.int .u32 0, .int .i32 0, .int .u32 0, .slice none 0 0, .slice none 0 0, .int .i64 0] 40)))
    have hsz := HU0.size
    clear hf hg HU0
    go_wp2_with fail
    refine (inv_no w1.heap.size a _ HA.out).mono ?_
    rintro e w' ⟨rfl, rfl⟩
    go_wp2_with fail
    refine (mul_any w1.heap.size 0 a b _ HF.out (by omega)).mono ?_
    rintro e w3 ⟨rfl, R3, U3⟩
    have HG3 := Lib.hid (HG.out.other HF.out (by omega) U3)
    have HF3 := Lib.hid R3.fld
    have HU3 := Lib.hid (HU.out.new U3 hsz)
    clear R3 U3 HF HG HU
    go_wp2_with fail
    refine (rMul_low _ _ _).mono ?_
    rintro e w' ⟨rfl, rfl⟩
    go_wp2_with fail
    refine (rInv_low _ _).mono ?_
    rintro e w' ⟨rfl, rfl⟩
    rw [HI.out]
    go_wp2_with fail
    refine (rLow_low _ _).mono ?_
    rintro e w' ⟨rfl, rfl⟩
    rw [HA.out]
    go_wp2_with fail
    refine (mul_any (w1.heap.size + 1) 0 b a _ HG3.out (by omega)).mono ?_
    rintro e w4 ⟨rfl, R4, U4⟩
    have HF4 := Lib.hid (HF3.out.other HG3.out (by omega) U4)
    have HG4 := Lib.hid R4.fld
    have HU4 := Lib.hid (HU3.out.new U4 (by omega))
    clear R4 U4 HF3 HG3 HU3
    go_wp2_with fail
    refine (mul_any w1.heap.size _ a b _ HF4.out (by omega)).mono ?_
    rintro e w5 ⟨rfl, R5, U5⟩
    have HG5 := Lib.hid (HG4.out.other HF4.out (by omega) U5)
    have HF5 := Lib.hid R5.fld
    have HU5 := Lib.hid (HU4.out.new U5 (by omega))
    clear R5 U5 HF4 HG4 HU4
    rw [HC.out]
    go_wp2_with fail
    refine (products_any w1.heap.size _ _ HF5.out).mono ?_
    rintro e w' ⟨rfl, rfl⟩
    go_wp2_with fail
    refine (products_any (w1.heap.size + 1) _ _ HG5.out).mono ?_
    rintro e w' ⟨rfl, rfl⟩
    go_wp2_with fail
    go_ret
    exact ⟨rfl, HU5.out.ends⟩
  · have HA := Lib.hid ha
    have HT : (((low a : Nat) : Int) != 0) = true := by rw [bne_iff_ne]; omega
    clear ha
    go_enter Try.func3, Try.ntmps3
    go_wp2_with fail
    refine (speaks_any _).mono ?_
    rintro e w1 ⟨rfl, HU0⟩
    obtain ⟨hf, hg⟩ := fld2 w1
    have HF := Lib.hid hf
    have HG := Lib.hid hg
    have HU := Lib.hid (((HU0.alloc (.cells #[.int .u32 0, .int .i32 0, .int .u32 0, .slice none 0 0, .slice none 0 0, .int .i64 0] 40)).alloc (.cells #[.int .u32 0, .int .i32 0, .int .u32 0, .slice none 0 0, .slice none 0 0, .int .i64 0] 40)))
    have hsz := HU0.size
    clear hf hg HU0
    go_wp2_with fail
    refine (inv_yes w1.heap.size 0 a _ HF.out HA.out).mono ?_
    rintro e w2 ⟨rfl, R2, U2⟩
    have HG2 := Lib.hid (HG.out.other HF.out (by omega) U2)
    have HF2 := Lib.hid R2.fld
    have HU2 := Lib.hid (HU.out.new U2 hsz)
    clear R2 U2 HF HG HU
    go_wp2_with fail
    refine (mul_any w1.heap.size 0 a b _ HF2.out (by omega)).mono ?_
    rintro e w3 ⟨rfl, R3, U3⟩
    have HG3 := Lib.hid (HG2.out.other HF2.out (by omega) U3)
    have HF3 := Lib.hid R3.fld
    have HU3 := Lib.hid (HU2.out.new U3 (by omega))
    clear R3 U3 HF2 HG2 HU2
    go_wp2_with fail
    refine (rMul_low _ _ _).mono ?_
    rintro e w' ⟨rfl, rfl⟩
    go_wp2_with fail
    refine (rInv_low _ _).mono ?_
    rintro e w' ⟨rfl, rfl⟩
    go_wp2_with fail
    refine (rLow_low _ _).mono ?_
    rintro e w' ⟨rfl, rfl⟩
    go_wp2_with fail
    refine (mul_any (w1.heap.size + 1) 0 b a _ HG3.out (by omega)).mono ?_
    rintro e w4 ⟨rfl, R4, U4⟩
    have HF4 := Lib.hid (HF3.out.other HG3.out (by omega) U4)
    have HG4 := Lib.hid R4.fld
    have HU4 := Lib.hid (HU3.out.new U4 (by omega))
    clear R4 U4 HF3 HG3 HU3
    go_wp2_with fail
    refine (mul_any w1.heap.size _ a b _ HF4.out (by omega)).mono ?_
    rintro e w5 ⟨rfl, R5, U5⟩
    have HG5 := Lib.hid (HG4.out.other HF4.out (by omega) U5)
    have HF5 := Lib.hid R5.fld
    have HU5 := Lib.hid (HU4.out.new U5 (by omega))
    clear R5 U5 HF4 HG4 HU4
    rw [HC.out]
    go_wp2_with fail
    refine (products_any w1.heap.size _ _ HF5.out).mono ?_
    rintro e w' ⟨rfl, rfl⟩
    go_wp2_with fail
    refine (products_any (w1.heap.size + 1) _ _ HG5.out).mono ?_
    rintro e w' ⟨rfl, rfl⟩
    go_wp2_with fail
    go_ret
    exact ⟨rfl, HU5.out.ends⟩

theorem intParts : ∃ i0, Try.prog.info? 3 = some i0 ∧ i0.zero = some (.int .i64 0) ∧ i0.size = 1 ∧ i0.bytes = 8 := by
  obtain ⟨i0, h1, h2⟩ := Option.map_eq_some_iff.1 intCells
  simp only [Prod.mk.injEq] at h2
  exact ⟨i0, h1, h2.1, h2.2.1, h2.2.2⟩
theorem Upd.grown {a b c : World} {v : Value} (h : Upd noBlock a b) (g : b.grownBy c v.ownBlock) (hv : ∀ k, v.ownBlock = some k → a.heap.size ≤ k) : Upd noBlock a c :=
  ⟨g.os.trans h.os, g.tape.trans h.tape, g.output.trans h.output, Nat.le_trans h.size g.size, fun i hi hn => (g.block i (Nat.lt_of_lt_of_le hi h.size) (fun e => by have := hv i e.symm; omega)).trans (h.block i hi hn)⟩
theorem Fld.grown {w w' : World} {b : Nat} {n : Int} {v : Value} {base e m : Nat} {ys : List Value} (h : Fld w b n) (g : w.grownBy w' v.ownBlock) (hv : w.ownsRow base e 1 v m ys) (hb : b < base) (hpl : ∀ k, v.ownBlock = some k → ∀ c, w.heap[k]? = some (.cells c 3 (0, 0)) → c.size ≠ 16382 ∧ c.size ≠ 8192) : Fld w' b n := by
  have hlt := hv.lt
  have hk : ∀ o, w.heap[b]? = some o → w'.heap[b]? = some o := fun o ho => (g.block b (lt_of_block ho) (fun e => by have := (hlt b e.symm).1; omega)).trans ho
  rcases h with h | ⟨pb, lb, h1, h2, h3⟩
  · exact .inl (hk _ h)
  · refine .inr ⟨pb, lb, hk _ h1, h2.of_block (g.block _ h2.lt (fun e => ?_)), h3.of_block (g.block _ h3.lt (fun e => ?_))⟩
    · obtain ⟨c, hc, hn, _⟩ := h2
      exact (hpl pb e.symm c hc).1 hn
    · obtain ⟨c, hc, hn, _⟩ := h3
      exact (hpl lb e.symm c hc).2 hn

set_option maxRecDepth 100000 in
set_option maxHeartbeats 1600000 in
theorem gfEvals_walk (a : Option Addr) (len cap : Nat) (zs : List Int) (x : Int) (w : World) (wa : IsRow .i64 w a len cap zs) (hreach : cap * 8 ≤ 140737488351232) (_wx : (Lit.int .i64 x).wf = true) :
    Calls Try.prog 6 #[.slice a len cap, .int .i64 x] w fun e w' => e = .returned (.bool true) ∧ Below w.heap.size w w' := by
  have hnot : ∀ (x : Bool) (w : World), (Op.unary .not (.bool x)).run Try.prog w = .ok (.bool (!x)) w := fun _ _ => rfl
  obtain ⟨hr, hm⟩ := wa.ints
  have hlc : len ≤ cap := by
    rcases wa with ⟨_, h, _, _⟩ | ⟨_, _, h, _⟩
    · omega
    · exact h
  have hlen := hr.1
  generalize zs.take len = xs at hr hlen
  have Hlen := Lib.hid hlen
  clear wa hlen
  obtain ⟨i0, hi0, hz0, hz1, hz2⟩ := intParts
  go_enter Try.func6, Try.ntmps6
  go_wp2_with fail
  refine (speaks_any _).mono ?_
  rintro e w1 ⟨rfl, HU0⟩
  have HF := Lib.hid (fresh_new w1)
  have HU := Lib.hid (HU0.alloc (.cells #[.int .u32 0, .int .i32 0, .int .u32 0, .slice none 0 0, .slice none 0 0, .int .i64 0] 40))
  have hsz := HU0.size
  clear HU0
  have hown0 := World.ownsRow_made (base := w1.heap.size + 1) (e := 3) (size := 1) (w := w1.alloc (.cells #[.int .u32 0, .int .i32 0, .int .u32 0, .slice none 0 0, .slice none 0 0, .int .i64 0] 40)) #[] 0 (by simp) (Nat.zero_le _) (by simp)
  rw [World.size_alloc] at hown0
  have HO := Lib.hid hown0
  clear hown0
  have HF2 := Lib.hid (HF.out.alloc (.cells #[] 3))
  have HU2 := Lib.hid (HU.out.alloc (.cells #[] 3))
  have HR2 := Lib.hid (hr.grow HU2.out (Nat.le_refl _))
  clear HF HU
  go_wp2_with (at_builtin; refine wpList_append_ints _ rfl (.tmp 10) (.tmp 11) _ rfl (w1.heap.size + 1) 3 i0 _ Try.underlying35 hi0 hz0 hz1 hz2 rfl (.slice (some ⟨w1.heap.size + 1, 0, none⟩) 0 0) 0 [] rfl HO.out w.heap.size a len cap xs rfl HR2.out (by omega) (by omega) (by simp) ?_; intro v2 w3 hown3 hg3 _)
  have hfl := HF2.out.grown hg3 HO.out (by omega) (fun k hk c hc => by
    have e : w1.heap.size + 1 = k := by simpa [Value.ownBlock] using hk
    subst e
    have h2 : (w1.alloc (.cells #[.int .u32 0, .int .i32 0, .int .u32 0, .slice none 0 0, .slice none 0 0, .int .i64 0] 40)).heap.size = w1.heap.size + 1 := World.size_alloc ..
    rw [← h2, heap_alloc_new] at hc
    injection hc with hc
    injection hc with hc
    subst hc
    decide)
  have hup := HU2.out.grown hg3 (fun k hk => by
    have e : w1.heap.size + 1 = k := by simpa [Value.ownBlock] using hk
    omega)
  rw [Nat.zero_add, List.nil_append] at hown3
  obtain ⟨a3, c3, rfl, hr3, hm3, hb3⟩ := own_ints hown3
  have HF3 := Lib.hid hfl
  have HU3 := Lib.hid hup
  have HR3 := Lib.hid hr3
  have HB3 := Lib.hid hb3
  clear hfl hup hr3 hb3 hown3 hg3 HF2 HU2 HR2 HO
  go_wp2_with fail
  refine (eval_any w1.heap.size 0 x a3 len c3 w3.heap.size xs _ HF3.out HR3.out (Nat.le_refl _) hm3 (fun g hg _ => by have := (HB3.out g hg).1; omega)).mono ?_
  rintro e w4 ⟨rfl, R4, U4⟩
  have HU4 := Lib.hid (HU3.out.new U4 (by omega))
  have HR4 := Lib.hid (HR3.out.upd U4 (Nat.le_refl _) (fun g hg _ e => by have := (HB3.out g hg).1; have e' : g = w1.heap.size := e; omega))
  have HS4 := Lib.hid (hr.grow HU4.out (Nat.le_refl _))
  clear R4 U4 HF3 HU3 HR3 hr
  go_wp2_with fail
  refine (rEval_any x a len cap _ xs _ HS4.out hm).mono ?_
  rintro e w' ⟨rfl, rfl⟩
  go_wp2_with fail
  have hcap : len ≤ 9223372036854775807 := by unfold maxLen at hm3; omega
  clear hm hm3 HB3 Hlen
  go_loopw [7] (fun i wr => ∃ k : Nat, k ≤ len ∧ i = .int .i64 (k : Int) ∧ Hid (Ints wr w3.heap.size a3 len xs) ∧ Hid (Ints wr w.heap.size a len xs) ∧ Hid (Upd noBlock w wr)) (fun i _ => len - (intOf i).toNat)
  case atStart => exact ⟨0, Nat.zero_le _, rfl, HR4, HS4, HU4⟩
  case round =>
    clear HR4 HS4 HU4
    obtain ⟨k, hk, rfl, HR, HS, HU⟩ := hrel
    by_cases h0 : k < len
    · obtain ⟨g, off, rfl, _, hc1⟩ := HR.out.cell (by omega)
      obtain ⟨g', off', rfl, _, hc2⟩ := HS.out.cell (by omega)
      have c1 := hc1 k h0
      have c2 := hc2 k h0
      generalize xs.getD k 0 = z at c1 c2
      clear hc1 hc2
      go_wp2
      go_quiet (fail)
      go_wp2
      go_roundw
      case rel => exact ⟨k + 1, by omega, by go_num, HR, HS, HU.out.drewN _⟩
      case measure => simp [intOf]; omega
    · obtain rfl : k = len := by omega
      go_wp2
      go_ret
      exact ⟨rfl, HU.out.ends⟩
end Go.Proofs.Ytfahibnbfinibaa
