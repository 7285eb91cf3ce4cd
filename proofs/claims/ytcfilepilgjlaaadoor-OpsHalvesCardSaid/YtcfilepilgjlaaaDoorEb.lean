/- piecesOf, Span, slices.Equal, slices.Clone. -/
import Derived.Test.YtcfilepilgjlaaaDoorEa
import Derived.Test.YtcfilepilgjlaaaDoorShelf
import Derived.Deep.AppendSrc
namespace Go.Proofs.YtcfilepilgjlaaaDoor
open Go.RowKit

/-- how many pieces hold n bytes -/
def pcs (n : Int) : Int := if n % 64 > 0 then n / 64 + 1 else n / 64
theorem pcs_eq (n : Int) : pcs n = (n + 63) / 64 := by unfold pcs; split <;> omega
set_option maxRecDepth 20000 in
set_option maxHeartbeats 1600000 in
theorem piecesOf_any (n : Int) (w : World) (h0 : 0 ≤ n) (h1 : n ≤ 9223372036854775807) :
    Calls Tryd.prog 20 #[.int .i64 n] w fun e w' => e = .returned (.int .i64 (pcs n)) ∧ w' = w := by
  have e1 : n.tdiv 64 = n / 64 := Int.tdiv_eq_ediv_of_nonneg h0
  have e2 : n.tmod 64 = n % 64 := Int.tmod_eq_emod_of_nonneg h0
  by_cases h : n % 64 > 0
  · have e3 : pcs n = n / 64 + 1 := if_pos h
    rw [e3]
    go_enter Tryd.func20, Tryd.ntmps20
    go_wp2
    go_ret
    exact ⟨rfl, rfl⟩
  · have e3 : pcs n = n / 64 := if_neg h
    rw [e3]
    go_enter Tryd.func20, Tryd.ntmps20
    go_wp2
    go_ret
    exact ⟨rfl, rfl⟩
def spanOk (o s : Int) : Prop := 0 ≤ o ∧ 1 ≤ s ∧ o ≤ 8192 ∧ s ≤ 8192
instance (o s : Int) : Decidable (spanOk o s) := by unfold spanOk; infer_instance
def spanA (o s : Int) : Int × Int := if spanOk o s then (o / 64, pcs (o + s)) else (0, 0)
set_option maxRecDepth 20000 in
set_option maxHeartbeats 1600000 in
theorem Span_any (o s : Int) (w : World) :
    Calls Tryd.prog 10 #[.int .i64 o, .int .i64 s] w fun e w' => e = .returned (.tuple #[.int .i64 (spanA o s).1, .int .i64 (spanA o s).2]) ∧ w' = w := by
  by_cases h : spanOk o s
  · obtain ⟨h1, h2, h3, h4⟩ := h
    have e0 : spanA o s = (o / 64, pcs (o + s)) := if_pos ⟨h1, h2, h3, h4⟩
    rw [e0]
    have e1 : o.tdiv 64 = o / 64 := Int.tdiv_eq_ediv_of_nonneg h1
    have HP := Lib.hid (fun w => piecesOf_any (o + s) w (by omega) (by omega))
    clear e0
    go_enter Tryd.func10, Tryd.ntmps10
    go_wp2_with (go_at_call 20; refine (HP.out _).mono ?_; rintro e w1 ⟨rfl, rfl⟩)
    go_ret2
    exact ⟨rfl, rfl⟩
  · have e0 : spanA o s = (0, 0) := if_neg h
    rw [e0]
    have h' : o < 0 ∨ (0 ≤ o ∧ s < 1) ∨ (0 ≤ o ∧ 1 ≤ s ∧ o > 8192) ∨ (0 ≤ o ∧ 1 ≤ s ∧ o ≤ 8192 ∧ s > 8192) := by unfold spanOk at h; omega
    clear h e0
    rcases h' with h1 | ⟨h1, h2⟩ | ⟨h1, h2, h3⟩ | ⟨h1, h2, h3, h4⟩
    all_goals
      go_enter Tryd.func10, Tryd.ntmps10
      go_wp2
      go_ret2
      exact ⟨rfl, rfl⟩

/-- do 64 bytes differ? -/
def same64 (f1 f2 : Nat → UInt8) (o1 o2 n : Nat) : Bool := (List.range n).all fun j => f1 (o1 + j) == f2 (o2 + j)
theorem same64_true {f1 f2 : Nat → UInt8} {o1 o2 n : Nat} (h : ∀ j, j < n → f1 (o1 + j) = f2 (o2 + j)) : same64 f1 f2 o1 o2 n = true := by
  unfold same64; rw [List.all_eq_true]; intro j hj; rw [List.mem_range] at hj; rw [h j hj]; exact beq_self_eq_true _
theorem same64_false {f1 f2 : Nat → UInt8} {o1 o2 n j : Nat} (hj : j < n) (h : ¬ f1 (o1 + j) = f2 (o2 + j)) : same64 f1 f2 o1 o2 n = false := by
  unfold same64; rw [List.all_eq_false]; exact ⟨j, List.mem_range.2 hj, by rw [beq_eq_false_iff_ne.2 h]; decide⟩
theorem same64_iff {f1 f2 : Nat → UInt8} {o1 o2 n : Nat} : same64 f1 f2 o1 o2 n = true ↔ ∀ j, j < n → f1 (o1 + j) = f2 (o2 + j) := by
  unfold same64; rw [List.all_eq_true]
  exact ⟨fun h j hj => eq_of_beq (h j (List.mem_range.2 hj)), fun h j hj => beq_iff_eq.2 (h j (List.mem_range.1 hj))⟩
theorem u8_ne {a b : UInt8} (h : ¬ a = b) : ¬ ((a.toNat : Nat) : Int) = ((b.toNat : Nat) : Int) := fun e => h (UInt8.toNat_inj.1 (by omega))
set_option maxRecDepth 20000 in
set_option maxHeartbeats 1600000 in
theorem Equal_any (g1 o1 n1 c1 g2 o2 n2 c2 n : Nat) (f1 f2 : Nat → UInt8) (w : World) (h1 : R8 w g1 n1 f1) (h2 : R8 w g2 n2 f2) (ho1 : o1 + n ≤ n1) (ho2 : o2 + n ≤ n2) (hn : n ≤ 65536) :
    Calls Tryd.prog 24 #[.slice (some ⟨g1, o1, none⟩) n c1, .slice (some ⟨g2, o2, none⟩) n c2] w fun e w' => e = .returned (.bool (same64 f1 f2 o1 o2 n)) ∧ Upd noBlock w w' := by
  obtain ⟨R, hR⟩ : ∃ R, same64 f1 f2 o1 o2 n = R := ⟨_, rfl⟩
  rw [hR]
  have HR := Lib.hid hR
  have HC : Hid (∀ w', Upd noBlock w w' → ∀ j, j < n → w'.cell? ⟨g1, o1 + j, none⟩ = some (.int .u8 (((f1 (o1 + j)).toNat : Nat) : Int)) ∧ w'.cell? ⟨g2, o2 + j, none⟩ = some (.int .u8 (((f2 (o2 + j)).toNat : Nat) : Int))) := fun w' hu j hj => ⟨(h1.grow hu).cell (o1 + j) (by omega), (h2.grow hu).cell (o2 + j) (by omega)⟩
  clear h1 h2 hR
  go_enter Tryd.func24, Tryd.ntmps24
  go_wp2
  go_loopw [13] (fun i wr => ∃ k : Nat, k ≤ n ∧ i = .int .i64 (k : Int) ∧ Hid (∀ j, j < k → f1 (o1 + j) = f2 (o2 + j)) ∧ Hid (Upd noBlock w wr)) (fun i _ => n - (intOf i).toNat)
  case atStart => exact ⟨0, Nat.zero_le _, rfl, fun j hj => absurd hj (Nat.not_lt_zero j), Upd.refl _ _⟩
  case round =>
    obtain ⟨k, hk, rfl, HE, HU⟩ := hrel
    by_cases h0 : k < n
    · obtain ⟨cc1, cc2⟩ := HC.out _ HU.out k h0
      by_cases he : f1 (o1 + k) = f2 (o2 + k)
      · have HE2 : Hid (∀ j, j < k + 1 → f1 (o1 + j) = f2 (o2 + j)) := fun j hj => by
          by_cases e : j = k
          · subst e; exact he
          · exact HE.out j (by omega)
        rw [he] at cc1
        generalize (((f2 (o2 + k)).toNat : Nat) : Int) = z at *
        clear HE he
        go_wp2
        go_quiet (fail)
        go_wp2
        go_roundw
        case rel => exact ⟨k + 1, by omega, by go_num, HE2, HU.out.drewN _⟩
        case measure => simp [intOf] <;> omega
      · have hne := u8_ne he
        have hres : R = false := by rw [← HR.out]; exact same64_false h0 he
        subst hres
        generalize (((f2 (o2 + k)).toNat : Nat) : Int) = z at *
        generalize (((f1 (o1 + k)).toNat : Nat) : Int) = z1 at *
        clear HE he HR
        go_wp2
        go_quiet (fail)
        go_wp2
        go_ret
        exact ⟨rfl, HU.out.drewN _⟩
    · obtain rfl : k = n := by omega
      have hres : R = true := by rw [← HR.out]; exact same64_true HE.out
      subst hres
      go_wp2
      go_ret
      exact ⟨rfl, HU.out⟩
theorem OwnB.empty8 (w : World) : OwnB (w.alloc (.cells #[] 5)) w.heap.size (.slice (some ⟨w.heap.size, 0, none⟩) 0 0) [] :=
  ⟨rfl, .inr ⟨w.heap.size, 0, #[], rfl, Nat.le_refl _, heap_alloc_new w _, Nat.le_refl _, Nat.zero_le _, rfl, rfl⟩⟩
/-- a row of the call's own, behind an append -/
theorem r8_own {w : World} {B n : Nat} {v : Value} {xs : List Value} {f : Nat → UInt8} (h : w.ownsRow B 5 1 v n xs) (h0 : 0 < n) (hx : ∀ j, j < n → xs[j]? = some (.int .u8 (((f j).toNat : Nat) : Int))) :
    ∃ g cap, v = .slice (some ⟨g, 0, none⟩) n cap ∧ B ≤ g ∧ n ≤ cap ∧ cap ≤ maxLen ∧ R8 w g n f := by
  rcases h.2 with ⟨_, h2⟩ | ⟨g, cap, cur, rfl, hb, hg, hnc, hcm, hsz, htake⟩
  · omega
  · refine ⟨g, cap, rfl, hb, hnc, hcm, cur, hg, by omega, fun j hj => ?_⟩
    have := hx j hj
    rw [← htake, List.getElem?_take, if_pos (by omega), Array.getElem?_toList] at this
    exact this
theorem bytes_get (f : Nat → UInt8) (n j : Nat) (hj : j < n) : (bc (bytesAt f 0 n))[j]? = some (.int .u8 (((f j).toNat : Nat) : Int)) := by
  rw [bc_get _ j (by rw [bytesAt_length]; exact hj), bytesAt_get, Nat.zero_add]
set_option maxRecDepth 20000 in
set_option maxHeartbeats 1600000 in
theorem Clone_any (g n c : Nat) (f : Nat → UInt8) (w : World) (h1 : R8 w g n f) (h0 : 0 < n) (hn : n ≤ 65536) :
    Calls Tryd.prog 16 #[.slice (some ⟨g, 0, none⟩) n c] w fun e w' => ∃ g' c', e = .returned (.slice (some ⟨g', 0, none⟩) n c') ∧ n ≤ c' ∧ c' ≤ maxLen ∧ w.heap.size ≤ g' ∧ R8 w' g' n f ∧ Upd noBlock w w' := by
  obtain ⟨i0, hi0, hz0, hz1, hz2⟩ := info_parts byteInfoB
  have HE := Lib.hid (OwnB.empty8 w)
  have HN : Hid (∀ j u, (bc (bytesAt f 0 n))[j]? = some u → (w.alloc (.cells #[] 5)).cell? ((⟨g, 0, none⟩ : Addr).add j) = some u) := fun j u hj => by
    have hjn : j < n := by have := (List.getElem?_eq_some_iff.1 hj).1; rwa [bc_length, bytesAt_length] at this
    rw [add_zero_addr, ← hj, bytes_get f n j hjn]
    exact (h1.grow ((Upd.refl noBlock w).alloc _)).cell j hjn
  have HL : Hid ((bc (bytesAt f 0 n)).length = n * 1) := by show _ = _; rw [bc_length, bytesAt_length, Nat.mul_one]
  have hq : ∀ w : World, (binOp .eql 37 (.slice (some ⟨g, 0, none⟩) n c) (.slice none 0 0)).run Tryd.prog w = .ok (.bool false) w := fun w => Lib.run_eql_slice_nil w _ _ _ n c 0 0 Tryd.underlying37
  clear h1
  go_enter Tryd.func16, Tryd.ntmps16
  go_wp2_with (first | simp only [hq, Result.andThen_ok] | (at_builtin; refine wpList_append_own _ rfl (.tmp 5) (.tmp 6) 37 rfl w.heap.size 5 i0 (.int .u8 0) 1 1 Tryd.underlying37 hi0 hz0 hz1 hz2 rfl (by decide) _ 0 [] rfl HE.out ⟨g, 0, none⟩ n c (bc (bytesAt f 0 n)) rfl HL.out HN.out (bc_one _) (by unfold maxLen; omega) (by omega) (by simp) ?_; intro v' w2 hO hg _; have HO := Lib.hid hO; have HG := Lib.hid hg; clear hO hg))
  go_ret
  have hO := HO.out
  simp only [Nat.zero_add, List.nil_append] at hO
  obtain ⟨g', c', rfl, hB, hc1, hc2, hr⟩ := r8_own hO h0 (fun j hj => bytes_get f n j hj)
  exact ⟨g', c', rfl, hc1, hc2, hB, hr, upd_of_grown ((Upd.refl noBlock w).alloc _) HG.out (fun k hk => .inr (own_base8 HE.out k hk).1)⟩
end Go.Proofs.YtcfilepilgjlaaaDoor
