/- ParityXors. -/
import Derived.Test.YtkjajmhanhbkdaaTi
namespace Go.Proofs.Ytkjajmhanhbkdaa
open Go.RowKit

theorem strParts7 : ∃ i0, Try.prog.info? 9 = some i0 ∧ i0.zero = some (.string ⟨#[]⟩) ∧ i0.size = 1 ∧ i0.bytes = 16 := by
  have h : (Try.prog.info? 9).map (fun i => (i.zero, i.size, i.bytes)) = some (some (.string ⟨#[]⟩), 1, 16) := by kernel_rfl
  obtain ⟨i0, h1, h2⟩ := Option.map_eq_some_iff.1 h
  simp only [Prod.mk.injEq] at h2
  exact ⟨i0, h1, h2.1, h2.2.1, h2.2.2⟩
set_option maxRecDepth 100000 in
set_option maxHeartbeats 3200000 in
theorem xors_any (x : Int) (a : Option Addr) (n c : Nat) (Ss : List ByteArray) (w : World) (hr : Strs w w.heap.size a n Ss) (hn : n ≤ 8796093021952) :
    Calls Try.prog 4 #[.int .i64 x, .slice a n c] w fun e w' => e = .returned (.bool true) ∧ Upd noBlock w w' := by
  obtain ⟨i0, hi0, hz0, hz1, hz2⟩ := strParts7
  have HS := Lib.hid hr
  have HN := Lib.hid hn
  clear hr hn
  go_enter Try.func4, Try.ntmps4
  go_wp2_with (first
    | (go_at_call 10; refine (speaks7_any _).mono ?_; rintro e w1 ⟨rfl, u1⟩; have U1 := Lib.hid u1; have S1 := Lib.hid (HS.out.grow u1 (Nat.le_refl _)); have O1 := Lib.hid (OwnS.empty w1 9); have R1 := Lib.hid ((HS.out.grow u1 (Nat.le_refl _)).row.grow ((Upd.refl noBlock w1).alloc (.cells #[] 9)) u1.size); have z1 := u1.size; clear u1)
    | (at_builtin; refine wpList_append_vals _ rfl (.tmp 9) (.tmp 10) _ rfl w1.heap.size 9 i0 _ 16 Try.underlying34 hi0 hz0 hz1 hz2 rfl _ 0 [] rfl O1.out w.heap.size a n c (Ss.map Value.string) rfl R1.out (strs_one Ss) (by have := HN.out; simp only [maxLen]; omega) (by have := HN.out; omega) (by simp) ?_; intro v3 w3 hown3 hg3 _; simp only [Nat.zero_add, List.nil_append] at hown3; have u3 := (((Upd.refl noBlock w1).alloc (.cells #[] 9))).grownOwn hg3 (fun k hk => (O1.out.lt k hk).1); obtain ⟨a3, c3, rfl, r3, -, hb3⟩ := own_row1 hown3; have S3 := Lib.hid (Strs.mk r3 HS.out.fit); have U3 := Lib.hid u3; have S31 := Lib.hid (S1.out.grow u3 z1); have z3 := u3.size; clear u3 hown3 hg3 hb3 r3)
    | (go_at_call 16; refine (xor_any x a3 n c3 _ Ss w3 S3.out (Nat.le_refl _) (by have := HN.out; omega)).mono ?_; rintro e w4 ⟨rfl, u4⟩; have U4 := Lib.hid u4; have S4 := Lib.hid (S3.out.grow u4 (Nat.le_refl _)); have S41 := Lib.hid (S31.out.grow u4 (by omega)); have z4 := u4.size; clear u4)
    | (go_at_call 17; refine (refXor_any x a n c _ Ss w4 S41.out (by omega) (by have := HN.out; omega)).mono ?_; rintro e w5 ⟨rfl, u5⟩; have U5 := Lib.hid u5; have S5 := Lib.hid (S4.out.grow u5 (by omega)); have S51 := Lib.hid (S41.out.grow u5 (by omega)); clear u5))
  have UU := Lib.hid ((U1.out.trans U3.out).trans (U4.out.trans U5.out))
  have hn' : n ≤ 9223372036854775807 := by have := HN.out; omega
  clear U1 U3 U4 U5 S4 S41 S3 S31 O1 R1 S1
  go_loopw [6] (fun i wr => ∃ k : Nat, k ≤ n ∧ i = .int .i64 (k : Int) ∧ Hid (Upd noBlock w5 wr)) (fun i _ => n - (intOf i).toNat)
  case atStart => exact ⟨0, Nat.zero_le _, rfl, Upd.refl _ _⟩
  case round =>
    obtain ⟨k, hk, rfl, HU⟩ := hrel
    by_cases h0 : k < n
    · obtain ⟨b, off, hab, hb, hc⟩ := S51.out.cell (by omega)
      obtain ⟨b3, off3, hab3, hb3, hc3⟩ := S5.out.cell (by omega)
      subst hab hab3
      obtain ⟨s, hs⟩ : ∃ s, Ss.getD k ⟨#[]⟩ = s := ⟨_, rfl⟩
      have c1 : wr.cell? ⟨b, off + k, none⟩ = some (.string s) := by rw [← hs]; exact (World.cell?_of_block (HU.out.block b (World.block_lt_of_cell? _ _ (hc k h0)) (fun h => h))).trans (hc k h0)
      have c3' : wr.cell? ⟨b3, off3 + k, none⟩ = some (.string s) := by rw [← hs]; exact (World.cell?_of_block (HU.out.block b3 (World.block_lt_of_cell? _ _ (hc3 k h0)) (fun h => h))).trans (hc3 k h0)
      clear hc hc3 hs
      go_wp2
      go_quiet (fail)
      go_wp2
      go_roundw
      case rel => exact ⟨k + 1, by omega, by go_num, HU.out.drewN _⟩
      case measure => simp [intOf]; omega
    · obtain rfl : k = n := by omega
      go_wp2
      go_ret
      exact ⟨rfl, UU.out.trans HU.out⟩
theorem parityXors_walk (x : Int) (a : Option Addr) (n c : Nat) (Ss : List ByteArray) (w : World) (_ : (Lit.int .i64 x).wf = true) (hr : Strs w w.heap.size a n Ss) (hn : n ≤ 8796093021952) :
    Calls Try.prog 4 #[.int .i64 x, .slice a n c] w fun e w' => e = .returned (.bool true) ∧ Below w.heap.size w w' :=
  (xors_any x a n c Ss w hr hn).mono fun _ _ ⟨h1, h2⟩ => ⟨h1, h2.below (fun _ _ h => h)⟩
end Go.Proofs.Ytkjajmhanhbkdaa
