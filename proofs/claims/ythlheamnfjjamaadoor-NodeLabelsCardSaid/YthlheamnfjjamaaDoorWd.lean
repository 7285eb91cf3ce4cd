/- Plain: values put are got again. -/
import Derived.Test.YthlheamnfjjamaaDoorWc
import Derived.Test.YthlheamnfjjamaaDoorOq
import Derived.Test.YthlheamnfjjamaaDoorOi
import Derived.Test.YthlheamnfjjamaaDoorOn
import Derived.Test.YthlheamnfjjamaaDoorKf
import Derived.Test.YthlheamnfjjamaaDoorOw
namespace Go.Proofs.YthlheamnfjjamaaDoor
open Go.RowKit Cm

theorem box2 (w W : World) (a b : Value) (t : TypeId) (h : Upd noBlock (w.alloc (.cells #[a, b] t)) W) : W.cell? ⟨w.heap.size, 0, none⟩ = some a ∧ W.cell? ⟨w.heap.size, 1, none⟩ = some b :=
  let k := h.cells (heap_alloc_new w _) (fun h => h)
  ⟨cell_of k 0, cell_of k 1⟩
theorem valN_beZi : ∀ (k : Nat) (n : Int), ((valN (beZ k n) : Nat) : Int) = n % ((256 ^ k : Nat) : Int)
  | 0, n => by simp [beZ, valN, Int.emod_one]
  | k + 1, n => by
    rw [beZ_snoc, valN_snoc, Int.natCast_add, Int.natCast_mul, valN_beZi k (n / 256)]
    have h1 : ((UInt8.ofNat (n % 256).toNat).toNat : Int) = n % 256 := by rw [u8_ofNat']; omega
    rw [h1, Nat.pow_succ, Int.natCast_mul]
    generalize ((256 ^ k : Nat) : Int) = m
    have key : n / 256 / m = n / (256 * m) := Int.ediv_ediv_of_nonneg (by decide)
    rw [Int.emod_def (n / 256) m, Int.emod_def n (m * ((256 : Nat) : Int)), Int.mul_comm m ((256 : Nat) : Int)]
    show 256 * (n / 256 - m * (n / 256 / m)) + n % 256 = n - 256 * m * (n / (256 * m))
    rw [← key, Int.mul_assoc]
    generalize m * (n / 256 / m) = z
    omega
theorem wrap_beZ (n : Int) (h : (Lit.int .i64 n).wf = true) : wrap64 ((valN (beZ 8 n) : Nat) : Int) = n := by
  simp [Lit.wf, IntKind.min, IntKind.max, IntKind.signed, IntKind.bits] at h
  rw [valN_beZi]
  unfold wrap64
  show (n % ((256 ^ 8 : Nat) : Int) + _) % _ - _ = n
  rw [show ((256 ^ 8 : Nat) : Int) = 18446744073709551616 by decide]
  omega
theorem okN_val8 (l : List UInt8) (h : l.length = 8) : okN (wrap64 ((valN l : Nat) : Int)) = decide (0 ≤ numR l) ∧ (0 ≤ numR l → wrap64 ((valN l : Nat) : Int) = ((valN l : Nat) : Int)) := by
  have hb := valN_bound l
  rw [h] at hb
  have hb' : valN l < 18446744073709551616 := hb
  unfold numR
  by_cases h1 : valN l ≤ 1099511627776
  · rw [if_pos h1]
    have : wrap64 ((valN l : Nat) : Int) = ((valN l : Nat) : Int) := by unfold wrap64; omega
    rw [this]
    refine ⟨?_, fun _ => rfl⟩
    rw [decide_eq_true (by omega)]
    exact (okN_iff _).2 ⟨by omega, by omega⟩
  · rw [if_neg h1]
    refine ⟨?_, fun h => absurd h (by decide)⟩
    rw [decide_eq_false (by decide)]
    rw [Bool.eq_false_iff]
    intro h
    have := (okN_iff _).1 h
    unfold wrap64 at this
    omega
theorem putI_len (d : Bool) (a b : Int) : (putI d a b).length = 17 := by unfold putI; rw [List.length_append, List.length_append, beZ_length, beZ_length, beZ_length]
theorem beZ1 (d : Bool) : beZ 1 (if d then 1 else 0) = [if d then 1 else 0] := by cases d <;> decide
theorem putI_parts (d : Bool) (a b : Int) (ha : (Lit.int .i64 a).wf = true) (hb : (Lit.int .i64 b).wf = true) : firL (putI d a b) = (if d then 1 else 0) ∧ linkL (putI d a b) = a ∧ sizeL (putI d a b) = b := by
  unfold firL linkL sizeL splN putI
  rw [beZ1]
  refine ⟨by cases d <;> rfl, ?_, ?_⟩
  · have e : ((([if d then 1 else 0] ++ (beZ 8 a ++ beZ 8 b) : List UInt8).drop 1).drop (0 * 8)).take 8 = beZ 8 a := by
      show ((beZ 8 a ++ beZ 8 b).drop 0).take 8 = _
      rw [List.drop_zero, List.take_left' (beZ_length 8 a)]
    rw [e]; exact wrap_beZ a ha
  · have e : ((([if d then 1 else 0] ++ (beZ 8 a ++ beZ 8 b) : List UInt8).drop 1).drop (1 * 8)).take 8 = beZ 8 b := by
      show ((beZ 8 a ++ beZ 8 b).drop 8).take 8 = _
      rw [List.drop_left' (beZ_length 8 a), List.take_of_length_le (by rw [beZ_length]; exact Nat.le_refl _)]
    rw [e]; exact wrap_beZ b hb
theorem getI_put (d : Bool) (a b : Int) (ha : (Lit.int .i64 a).wf = true) (hb : (Lit.int .i64 b).wf = true) : getIok (putI d a b) = (okN a && okN b) ∧ getIV (putI d a b) = if okN a && okN b then inodeV d a b else inodeV false 0 0 := by
  obtain ⟨p1, p2, p3⟩ := putI_parts d a b ha hb
  have h1 : getIok (putI d a b) = (okN a && okN b) := by
    unfold getIok
    rw [putI_len, p1, p2, p3, decide_eq_true rfl, decide_eq_true (by cases d <;> decide), Bool.true_and, Bool.true_and]
  refine ⟨h1, ?_⟩
  unfold getIV
  rw [h1, p1, p2, p3]
  cases d <;> rfl
theorem getE_put (a : Int) (ha : (Lit.int .i64 a).wf = true) : getEok (beZ 8 a) = okN a ∧ getEV (beZ 8 a) = if okN a then a else 0 := by
  have h1 : getEok (beZ 8 a) = okN a := by unfold getEok; rw [beZ_length, wrap_beZ a ha, decide_eq_true rfl, Bool.true_and]
  refine ⟨h1, ?_⟩
  unfold getEV
  rw [h1, wrap_beZ a ha]
theorem getE_back (l : List UInt8) (h : getEok l = true) : beZ 8 (getEV l) = l ∧ l.length = 8 ∧ 0 ≤ numR l := by
  have h0 := h
  unfold getEok at h
  simp only [Bool.and_eq_true, decide_eq_true_eq] at h
  obtain ⟨h1, h2⟩ := okN_val8 l h.1
  rw [h1, decide_eq_true_eq] at h
  refine ⟨?_, h.1, h.2⟩
  unfold getEV
  rw [if_pos h0, h2 h.2]
  have := beZ_valN l
  rw [h.1] at this
  exact this
theorem getI_back (l : List UInt8) (h : getIok l = true) : putI (firL l == 1) (linkL l) (sizeL l) = l ∧ l.length = 17 ∧ firL l ≤ 1 ∧ 0 ≤ numR ((l.drop 1).take 8) ∧ 0 ≤ numR (l.drop 9) := by
  unfold getIok at h
  simp only [Bool.and_eq_true, decide_eq_true_eq] at h
  obtain ⟨h17, hf, ha, hb⟩ := h
  have l1 : ((l.drop 1).take 8).length = 8 := by rw [List.length_take, List.length_drop]; omega
  have l2 : (l.drop 9).length = 8 := by rw [List.length_drop]; omega
  have e1 : linkL l = wrap64 ((valN ((l.drop 1).take 8) : Nat) : Int) := by unfold linkL splN; rw [Nat.zero_mul, List.drop_zero]
  have e2 : sizeL l = wrap64 ((valN (l.drop 9) : Nat) : Int) := by
    unfold sizeL splN
    rw [Nat.one_mul, List.drop_drop, List.take_of_length_le (by rw [List.length_drop]; omega)]
  obtain ⟨a1, a2⟩ := okN_val8 _ l1
  obtain ⟨b1, b2⟩ := okN_val8 _ l2
  rw [e1, a1, decide_eq_true_eq] at ha
  rw [e2, b1, decide_eq_true_eq] at hb
  refine ⟨?_, h17, hf, ha, hb⟩
  unfold putI
  rw [e1, e2, a2 ha, b2 hb]
  have v1 := beZ_valN ((l.drop 1).take 8)
  have v2 := beZ_valN (l.drop 9)
  rw [l1] at v1
  rw [l2] at v2
  rw [v1, v2, beZ1]
  have e3 : [if (firL l == 1) = true then (1 : UInt8) else 0] = l.take 1 := by
    match l, h17 with
    | x :: r, _ =>
      show [_] = [x]
      unfold firL at hf ⊢
      have hf' : x.toNat ≤ 1 := hf
      have : x = 0 ∨ x = 1 := by
        have := UInt8.toNat_inj (a := x) (b := 0)
        have := UInt8.toNat_inj (a := x) (b := 1)
        rcases (by omega : x.toNat = 0 ∨ x.toNat = 1) with h | h
        · exact .inl (UInt8.toNat_inj.1 h)
        · exact .inr (UInt8.toNat_inj.1 h)
      rcases this with rfl | rfl <;> rfl
  rw [e3]
  have e4 : (l.drop 1).take 8 ++ l.drop 9 = l.drop 1 := by
    have := List.take_append_drop 8 (l.drop 1)
    rw [List.drop_drop] at this
    exact this
  rw [e4, List.take_append_drop]
theorem getI_want (l : List UInt8) (h17 : l.length = 17) (hf : firL l ≤ 1) (h1 : 0 ≤ numR ((l.drop 1).take 8)) (h2 : 0 ≤ numR (l.drop 9)) : getIok l = true := by
  have l1 : ((l.drop 1).take 8).length = 8 := by rw [List.length_take, List.length_drop]; omega
  have l2 : (l.drop 9).length = 8 := by rw [List.length_drop]; omega
  have e1 : linkL l = wrap64 ((valN ((l.drop 1).take 8) : Nat) : Int) := by unfold linkL splN; rw [Nat.zero_mul, List.drop_zero]
  have e2 : sizeL l = wrap64 ((valN (l.drop 9) : Nat) : Int) := by
    unfold sizeL splN
    rw [Nat.one_mul, List.drop_drop, List.take_of_length_le (by rw [List.length_drop]; omega)]
  unfold getIok
  rw [e1, e2, (okN_val8 _ l1).1, (okN_val8 _ l2).1, decide_eq_true h17, decide_eq_true hf, decide_eq_true h1, decide_eq_true h2]
  rfl
theorem getE_want (l : List UInt8) (h8 : l.length = 8) (h : 0 ≤ numR l) : getEok l = true := by
  unfold getEok
  rw [(okN_val8 l h8).1, decide_eq_true h8, decide_eq_true h]; rfl
end Go.Proofs.YthlheamnfjjamaaDoor
