/- Same on lists that differ; what an append of a slice leaves. -/
import Derived.Test.YtcmcjojjphhffaaPI
import Derived.Test.YtcmcjojjphhffaaPo
import Derived.Test.YtcmcjojjphhffaaPE
namespace Go.Proofs.Ytcmcjojjphhffaa
open Go.RowKit Pm Gfm

theorem list_eq (xs ys : List Int) (n : Nat) (h1 : xs.length = n) (h2 : ys.length = n) (h : ∀ j, j < n → xs.getD j 0 = ys.getD j 0) : xs = ys := by
  refine List.ext_getElem (by omega) fun j hj hj' => ?_
  have := h j (by omega)
  rw [List.getD_eq_getElem?_getD, List.getD_eq_getElem?_getD, List.getElem?_eq_getElem hj, List.getElem?_eq_getElem hj'] at this
  exact this
set_option maxRecDepth 20000 in
set_option maxHeartbeats 800000 in
/-- two lists that differ are told apart -/
theorem same_no (a : Option Addr) (n cap B : Nat) (a' : Option Addr) (n' cap' B' : Nat) (xs ys : List Int) (w : World) (hr : Ints w B a n xs) (hr' : Ints w B' a' n' ys) (hm : n ≤ maxLen) (hne : xs ≠ ys) :
    Calls Try.prog 13 #[.slice a n cap, .slice a' n' cap'] w fun e w' => e = .returned (.bool false) ∧ Upd noBlock w w' := by
  have hcap : n ≤ 9223372036854775807 := by unfold maxLen at hm; omega
  have HR := Lib.hid hr
  have HR' := Lib.hid hr'
  have HN := Lib.hid hne
  clear hr hr' hm hne
  by_cases hn : n = n'
  · subst hn
    go_enter Try.func13, Try.ntmps13
    go_wp2
    go_loopw [5] (fun i wr => ∃ k : Nat, k ≤ n ∧ i = .int .i64 (k : Int) ∧ Hid (∀ j, j < k → xs.getD j 0 = ys.getD j 0) ∧ Hid (Ints wr B a n xs) ∧ Hid (Ints wr B' a' n ys) ∧ Hid (Upd noBlock w wr)) (fun i _ => n - (intOf i).toNat)
    case atStart => exact ⟨0, Nat.zero_le _, rfl, (fun j hj => absurd hj (by omega)), HR, HR', Upd.refl _ _⟩
    case round =>
      clear HR HR'
      obtain ⟨k, hk, rfl, HE, HR, HS, HU⟩ := hrel
      by_cases h0 : k < n
      · obtain ⟨g, off, rfl, _, hc1⟩ := HR.out.cell (by omega)
        obtain ⟨g', off', rfl, _, hc2⟩ := HS.out.cell (by omega)
        have c1 := hc1 k h0
        have c2 := hc2 k h0
        clear hc1 hc2
        by_cases hz : xs.getD k 0 = ys.getD k 0
        · have HE2 : Hid (∀ j, j < k + 1 → xs.getD j 0 = ys.getD j 0) := fun j hj => by
            rcases Nat.lt_or_ge j k with h1 | h1
            · exact HE.out j h1
            · rw [show j = k by omega]; exact hz
          rw [← hz] at c2
          clear hz HE
          generalize xs.getD k 0 = z at c1 c2
          go_wp2
          go_quiet (fail)
          go_wp2
          go_roundw
          case rel => exact ⟨k + 1, by omega, by go_num, HE2, HR, HS, HU.out.drewN _⟩
          case measure => simp [intOf]; omega
        · have t1 : (xs.getD k 0 == ys.getD k 0) = false := beq_eq_false_iff_ne.2 hz
          clear HE
          generalize xs.getD k 0 = z at c1 c2 t1 hz
          generalize ys.getD k 0 = z' at c1 c2 t1 hz
          go_wp2
          go_quiet (fail)
          go_wp2
          go_ret
          exact ⟨rfl, HU.out.drewN _⟩
      · exact absurd (list_eq xs ys n HR.out.1 HS.out.1 (fun j hj => HE.out j (by omega))) HN.out
  · have t1 : ((n : Int) == (n' : Int)) = false := beq_eq_false_iff_ne.2 (by omega)
    go_enter Try.func13, Try.ntmps13
    go_wp2
    go_ret
    exact ⟨rfl, Upd.refl _ _⟩
/-- a list of the call's own stays while a row of slices grows -/
theorem own_far {w w' : World} {base base' n m : Nat} {v sv : Value} {xs ys : List Value} (h : w.ownsRow base 3 1 v n xs) (hs : w.ownsRow base' 22 1 sv m ys) (hg : w.grownBy w' sv.ownBlock) : w'.ownsRow base 3 1 v n xs := by
  obtain ⟨hl, h⟩ := h
  refine ⟨hl, ?_⟩
  rcases h with h | ⟨g, cap, cur, h, hb, hc, hr⟩
  · exact .inl h
  · refine .inr ⟨g, cap, cur, h, hb, ?_, hr⟩
    have hne : some g ≠ sv.ownBlock := fun e => by
      obtain ⟨_, hs⟩ := hs
      rcases hs with ⟨rfl, _⟩ | ⟨g', cap', cur', rfl, _, hc', _⟩
      · cases e
      · have e2 : g = g' := by simpa [Value.ownBlock] using e
        subst e2
        rw [hc] at hc'
        have := congrArg (fun o : Option Obj => match o with | some (.cells _ t _) => t | _ => 0) hc'
        simp at this
    exact (hg.block g (lt_of_block hc) hne).trans hc
/-- a row of slices, opened -/
theorem own_slots {w : World} {base n : Nat} {v : Value} {L : List Value} (h : w.ownsRow base 22 1 v n L) :
    ∃ a c, v = .slice a n c ∧ n ≤ maxLen ∧ L.length = n ∧ (0 < n → ∃ g, a = some ⟨g, 0, none⟩ ∧ g < w.heap.size ∧ ∀ q u, L[q]? = some u → w.cell? ⟨g, q, none⟩ = some u) := by
  obtain ⟨hl, h⟩ := h
  rcases h with ⟨rfl, rfl⟩ | ⟨g, cap, cur, rfl, hb, hg, hnc, hcm, hsz, htake⟩
  · exact ⟨none, 0, rfl, Nat.zero_le _, by omega, fun h => absurd h (by omega)⟩
  · refine ⟨some ⟨g, 0, none⟩, cap, rfl, by omega, by omega, fun _ => ⟨g, rfl, lt_of_block hg, fun q u hq => ?_⟩⟩
    have hqn := (List.getElem?_eq_some_iff.1 hq).1
    rw [cell_of hg q]
    have : (cur.toList.take (n * 1))[q]? = L[q]? := by rw [htake]
    rw [List.getElem?_take, if_pos (by omega), Array.getElem?_toList] at this
    rw [this, hq]
theorem mp_ne : ∀ i j : Fin 8, i ≠ j → mv.getD i.val 0 ≠ mv.getD j.val 0 := by decide +kernel
theorem mp_apart (i j : Nat) (hi : i < 8) (hj : j < i) : exps (mp j) ≠ exps (mp i) := fun e => by
  have h := congrArg gat e
  rw [gat_exps _ (Nat.lt_of_lt_of_le (mp_deg ⟨j, by omega⟩).2 (Nat.pow_le_pow_right (by omega) (by unfold top; omega))), gat_exps _ (Nat.lt_of_lt_of_le (mp_deg ⟨i, hi⟩).2 (Nat.pow_le_pow_right (by omega) (by unfold top; omega)))] at h
  have h1 := mp_val ⟨j, by omega⟩
  have h2 := mp_val ⟨i, hi⟩
  exact mp_ne ⟨j, by omega⟩ ⟨i, hi⟩ (by simp; omega) (h1.symm.trans (h.trans h2))
theorem mres_mp (i : Nat) (hi : i < 8) : mres (pw (trn (2 * (i : Int) + 1))) 0 14 = mp i := by
  have e : trn (2 * (i : Int) + 1) = 2 * i + 1 := by unfold trn; omega
  rw [e]
  exact mres_mpol _ 13 (by omega) (by omega) (by omega) (rt_13 _) fun J h1 h2 h3 => by
    have := odd_13 i hi J h1 (by omega) h3
    omega
end Go.Proofs.Ytcmcjojjphhffaa
