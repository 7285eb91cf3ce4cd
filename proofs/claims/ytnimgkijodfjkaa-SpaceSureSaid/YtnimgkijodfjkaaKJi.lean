/- The pages of an index. -/
import Derived.Test.YtnimgkijodfjkaaKJh
namespace Go.Proofs.Ytnimgkijodfjkaa
open Go.RowKit Pm
set_option linter.unusedVariables false

def sliceLen : Value → Nat
  | .slice _ n _ => n
  | _ => 0
set_option maxRecDepth 100000 in
set_option maxHeartbeats 1600000 in
theorem indexPages_any (y : Int) (a : Option Addr) (n cap B : Nat) (xs : List Int) (w : World) (hr : Ints w B a n xs) (hB : B ≤ w.heap.size) (hk : Keys xs) (hn : n ≤ 2000) (hy : 249 ≤ y) (hy2 : y ≤ 2000) :
    Calls Try.prog 27 #[.int .i64 y, .slice a n cap] w fun e w' => ∃ T : Nat, e = .returned (.tuple #[.int .i64 (T : Int), .bool true]) ∧ T ≤ n ∧ Upd noBlock w w' := by
  have HFI : Hid (∀ (v : Int) (a : Option Addr) (n cap B : Nat) (xs : List Int) (W : World), Ints W B a n xs → B ≤ W.heap.size → Keys xs → n ≤ 2000 → 0 ≤ v ∧ v ≤ 12 → Calls Try.prog 37 #[.int .i64 y, .int .i64 v, .slice a n cap] W fun e w' => ∃ u ys, e = .returned u ∧ Pr.OwnV w' W.heap.size u ys ∧ Keys ys ∧ 3 * ys.length ≤ n + 2 ∧ (n = 0 → ys.length = 0) ∧ Upd noBlock W w') :=
    fun v a n cap B xs W h1 h2 h3 h4 h5 => firsts_any y v a n cap B xs W h1 h2 h3 h4 hy hy2 h5
  have HR := Lib.hid hr
  have HBB := Lib.hid hB
  have HL := Lib.hid hr.1
  have HKS := Lib.hid hk
  clear hr hB hk
  go_enter Try.func27, Try.ntmps27
  go_wp2_with fail
  go_loopw [12] (fun i wr => ∃ k : Nat, k ≤ n ∧ i = .int .i64 (k : Int) ∧ Hid (w = wr)) (fun i _ => n - (intOf i).toNat)
  case atStart => exact ⟨0, Nat.zero_le _, rfl, rfl⟩
  case round =>
    obtain ⟨k, hk, rfl, HW⟩ := hrel
    obtain rfl := HW.out
    by_cases h0 : k < n
    · obtain ⟨g, off, hag, hg, hc⟩ := HR.out.cell (by omega)
      subst hag
      have c1 := hc k h0
      obtain ⟨x1, x2⟩ := HKS.out.at (show k < xs.length by rw [HL.out]; exact h0)
      obtain ⟨x, hx⟩ : ∃ x, xs.getD k 0 = x := ⟨_, rfl⟩
      rw [hx] at x1 x2 c1
      clear hc hx hg
      go_wp2_with fail
      go_roundw
      case rel => exact ⟨k + 1, by omega, by go_num, by first | exact rfl | exact trivial⟩
      case measure => simp [intOf] <;> omega
    · clear HW
      go_wp2_with fail
      go_loopw [1, 8, 9] (fun u t v wr => ∃ (a' : Option Addr) (m cap' T : Nat) (q : Int) (zs : List Int), u = .slice a' m cap' ∧ t = .int .i64 (T : Int) ∧ v = .int .i64 q ∧ Hid (Ints wr wr.heap.size a' m zs) ∧ Hid (Keys zs) ∧ Hid (T + m ≤ n) ∧ Hid (0 ≤ q ∧ q ≤ 12) ∧ Hid (Upd noBlock w wr)) (fun u _ _ _ => sliceLen u)
      case atStart => exact ⟨a, n, cap, 0, 12, xs, rfl, rfl, rfl, HR.out.more HBB.out, HKS.out, by show _ ≤ _; omega, by show _ ∧ _; omega, Upd.refl _ _⟩
      case round =>
        obtain ⟨a', m, cap', T, q, zs, rfl, rfl, rfl, HZ, HKZ, HT, HQ, HU⟩ := hrel
        have ht := HT.out
        have HC := Lib.hid (HFI.out q a' m cap' wr.heap.size zs wr HZ.out (Nat.le_refl _) HKZ.out (by omega) HQ.out)
        go_upto_region 11 with (go_at_call 37; (with_reducible refine HC.out.mono ?_); rintro e w2 ⟨u, ys, rfl, ho, hky, hl3, hl0, hu⟩; obtain ⟨a2, c2, rfl, hi2, -, -⟩ := ho.sl; have HI2 := Lib.hid hi2; have HK2 := Lib.hid hky; have U2 := Lib.hid (HU.out.trans hu); have HL3 := Lib.hid hl3; have HL0 := Lib.hid hl0; clear ho hi2 hky hl3 hl0 hu)
        obtain ⟨m2, hm2⟩ : ∃ m2, ys.length = m2 := ⟨_, rfl⟩
        rw [hm2] at HI2 HL3 HL0
        rw [hm2]
        have l3 := HL3.out
        have l0 := HL0.out
        have tle : T + m2 ≤ n := by
          by_cases e : m = 0
          · have := l0 e; omega
          · omega
        by_cases hgo : m2 ≤ 1
        · clear l3 l0
          go_wp2_with fail
          go_ret2
          exact ⟨T + m2, by push_cast; rfl, tle, U2.out⟩
        · have hm4 : m2 < m ∧ T + m2 + m2 ≤ n := by omega
          obtain ⟨hm5, hm6⟩ := hm4
          clear l3 l0
          go_wp2_with fail
          go_roundw
          case rel => exact ⟨a2, m2, c2, T + m2, 2, ys, rfl, by push_cast; rfl, rfl, HI2.out, HK2.out, hm6, by show _ ∧ _; omega, U2.out⟩
          case measure => simp [sliceLen] <;> omega
end Go.Proofs.Ytnimgkijodfjkaa
