/- Walks over package gf: Eval. -/
import Derived.Test.YtpfmdlmnmagkmaaHd
namespace Go.Proofs.Ytpfmdlmnmagkmaa
open Go.RowKit Gfm

/-- the value of a polynomial, by Horner's rule -/
def hor (x : Nat) (l : List Int) : Nat := l.foldr (fun c acc => mul acc x ^^^ low c) 0
theorem hor_lt (x : Nat) (l : List Int) : hor x l < 8192 := by
  cases l with
  | nil => simp [hor]
  | cons c l =>
    show mul (hor x l) x ^^^ low c < 8192
    exact xor_lt _ _ (mul_lt _ _ (hor_lt x l)) (low_lt c)

theorem hor_step (x : Nat) (xs : List Int) (i : Nat) (h : i < xs.length) :
    hor x (xs.drop i) = mul (hor x (xs.drop (i + 1))) x ^^^ low (xs.getD i 0) := by
  rw [List.drop_eq_getElem_cons h]
  show mul (hor x _) x ^^^ low (xs[i]) = _
  have e : xs[i] = xs.getD i 0 := by
    rw [List.getD_eq_getElem?_getD, List.getElem?_eq_getElem h]; rfl
  rw [e]

set_option maxRecDepth 100000 in
set_option maxHeartbeats 1600000 in
theorem eval_any (b : Spt) (n x : Int) (a : Option Addr) (len cap B : Nat) (xs : List Int) (w : World) (h : Fld w b n) (hr : Ints w B a len xs) (hB : B ≤ w.heap.size) (hm : len ≤ maxLen) (hne : ∀ g, a.map Addr.block = some g → g < B → g ≠ b.blk) :
    Calls Try.prog 83 #[.pointer (some ⟨b.blk, b.off, none⟩), .slice a len cap, .int .i64 x] w fun e w' =>
      e = .returned (.int .i64 (hor (low x) xs : Nat)) ∧ Ready w' b n ∧ Upd (oneBlock b.blk) w w' := by
  have HF := Lib.hid h
  have m1 : bits .and .i64 x 8191 = ((low x : Nat) : Int) := by rw [i64_8191, low_eq]
  have hcap : len ≤ 9223372036854775807 := by unfold maxLen at hm; omega
  have hlen := hr.1
  have Hlen := Lib.hid hlen
  clear hm hlen
  clear h
  go_enter Try.func83, Try.ntmps83
  go_wp2_with (go_at_call 74; refine (prepare_any b n _ HF.out).mono ?_; rintro e w1 ⟨rfl, HR0, HV0⟩; have HR := Lib.hid HR0; have HV := Lib.hid HV0; clear HR0 HV0)
  go_loopw [7, 8] (fun v i wr => ∃ k : Nat, k ≤ len ∧ i = .int .i64 ((k : Int) - 1) ∧ v = .int .i64 ((hor (low x) (xs.drop k) : Nat) : Int) ∧ Hid (Ready wr b n) ∧ Hid (Upd (oneBlock b.blk) w wr)) (fun _ i _ => (intOf i + 1).toNat)
  case atStart => 
    refine ⟨len, Nat.le_refl _, rfl, ?_, HR, HV⟩
    rw [List.drop_of_length_le (by have := Hlen.out; omega)]; rfl
  case round =>
    clear HR HV
    obtain ⟨k, hk, rfl, rfl, HR, HV⟩ := hrel
    by_cases h0 : 0 < k
    · obtain ⟨i, rfl⟩ : ∃ i, k = i + 1 := ⟨k - 1, by omega⟩
      obtain ⟨g, off, rfl, hg, hcell⟩ := hr.cell (by omega)
      have hs := hor_step (low x) xs i (by have := Hlen.out; omega)
      have c1 : wr.cell? ⟨g, off + i, none⟩ = some (.int .i64 (xs.getD i 0)) := (World.cell?_of_block (HV.out.block g (by omega) (hne g rfl hg))).trans (hcell i (by omega))
      have m2 : bits .and .i64 (xs.getD i 0) 8191 = ((low (xs.getD i 0) : Nat) : Int) := by rw [i64_8191, low_eq]
      have hh := hor_lt (low x) (xs.drop (i + 1))
      have hx := low_lt x
      have m3 : bits .xor .i64 ((mul (hor (low x) (xs.drop (i + 1))) (low x) : Nat) : Int) ((low (xs.getD i 0) : Nat) : Int) = ((hor (low x) (xs.drop i) : Nat) : Int) := by
        rw [i64_xor_nat _ _ (by have := mul_lt _ (low x) hh; omega) (by have := low_lt (xs.getD i 0); omega), hs]
      have e1 : ((i + 1 : Nat) : Int) - 1 = (i : Int) := by omega
      rw [e1]
      clear hcell hs hne hr
      generalize xs.getD i 0 = z at c1 m2 m3
      go_wp2
      go_quiet ((go_at_call 75; exact Calls.quiet_of (product_any b _ _ n _ (HR.out.drewN _) hh hx)))
      go_wp2
      go_roundw
      case rel => exact ⟨i, by omega, rfl, rfl, HR.out.drewN _, HV.out.drewN _⟩
      case measure => simp [intOf]
    · obtain rfl : k = 0 := by omega
      have e1 : ((0 : Nat) : Int) - 1 = -1 := by omega
      rw [e1]
      go_wp2
      go_ret
      exact ⟨rfl, HR.out, HV.out⟩
end Go.Proofs.Ytpfmdlmnmagkmaa
