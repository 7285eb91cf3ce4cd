/- Noise: the bits of one piece, walked. -/
import Derived.Test.YtibkdoomnidndaaNs
namespace Go.Proofs.Ytibkdoomnidndaa
open Go.RowKit
attribute [local go_sem] Oper.semAt_some

/-- a fence that lets all in -/
abbrev NF : Fence := { fn := fun _ => True }

set_option maxRecDepth 100000 in
set_option maxHeartbeats 800000 in
theorem piece_in (n : Nat) (seed pc : Int) (most g o len cap N h : Nat) (f : Nat → Nat) (w : World) (hm1 : 1 ≤ most) (hm2 : most ≤ 64) (hl1 : 1 ≤ len) (hl2 : len ≤ 2048) (hN : o + len ≤ N) (hN2 : N ≤ 4096) (hh : h < 18446744073709551616)
    (hrow : ByteRow w g N 5 f) (hf : ∀ j, f j < 256) :
    CallsIn NF n Try.prog 51 #[.agg #[.int .u64 seed, .int .i64 (most : Int), .int .i64 pc], .slice (some ⟨g, o, none⟩) len cap, .int .u64 (h : Int)] w fun e w' => e = .returned (.tuple #[]) ∧ ByteRow w' g N 5 (pieceT most o len h f) ∧ Upd (oneBlock g) w w' := by
  have HH := Lib.hid hh
  have HR := Lib.hid hrow
  have HFF := Lib.hid hf
  clear hh hrow hf
  refine callsIn_of_wp Try.func51 rfl trivial ?_ rfl
  simp only [Try.ntmps51, List.size_toArray, List.length_cons, List.length_nil, Nat.reduceAdd, Nat.reduceSub, Array.replicate_succ, Array.replicate_zero, List.push_toArray, List.append_toArray, List.nil_append, List.cons_append]
  obtain ⟨t, ht⟩ : ∃ t, t = drawnN h most := ⟨_, rfl⟩
  have ht64 : t < 64 := by have : drawnN h most < most := Nat.mod_lt _ (by omega); omega
  have HT := Lib.hid ht
  clear ht
  have HD : Hid (∀ (n' : Nat) (w' : World), CallsIn NF n' Try.prog 55 #[.int .u64 (h : Int), .int .i64 (most : Int)] w' fun e w2 => e = .returned (.int .i64 (t : Int)) ∧ w' = w2) := Lib.hid (fun n' w' => by rw [HT.out]; exact drawn_in NF n' trivial rfl h most w' HH.out (by omega) (by omega))
  gi_wp2_with (gi_at_call 55; ((with_reducible refine (HD.out _ _).mono ?_); rintro e w' ⟨rfl, rfl⟩))
  gi_loopw [2, 12] (fun hv i wr => ∃ k : Nat, k ≤ t + 1 ∧ hv = .int .u64 ((stepsH k h : Nat) : Int) ∧ i = .int .i64 (k : Int) ∧ Hid (ByteRow wr g N 5 (turns o len k h f)) ∧ Hid (Upd (oneBlock g) w wr)) (fun _ i _ => t + 1 - (intOf i).toNat)
  case atStart => exact ⟨0, Nat.zero_le _, rfl, rfl, Lib.hid (HR.out.grow ((Upd.refl noBlock w).alloc _)), Lib.hid ((Upd.refl (oneBlock g) w).alloc _)⟩
  case round =>
    obtain ⟨k, hk, rfl, rfl, hR, hU⟩ := hrel
    obtain ⟨x, hx⟩ : ∃ x, x = stepsH k h := ⟨_, rfl⟩
    rw [← hx]
    have HX := Lib.hid hx
    clear hx
    by_cases hlt : k < t + 1
    · have hd1 : decide ((k : Int) < (t : Int) + 1) = true := decide_eq_true (by omega)
      obtain ⟨y, hy⟩ : ∃ y, y = stepH x := ⟨_, rfl⟩
      have hst : IntKind.u64.wrap (IntKind.u64.wrap ((x : Int) * 6364136223846793005) + 1442695040888963407) = (y : Int) := by
        rw [hy, stepH, IntKind.wrap_u64, IntKind.wrap_u64]; omega
      have hylt : Hid (y < 18446744073709551616) := Lib.hid (by rw [hy]; exact stepH_lt x)
      obtain ⟨bt, hbt⟩ : ∃ bt, bt = drawnN y (8 * len) := ⟨_, rfl⟩
      have HBT := Lib.hid hbt
      have hbt2 : bt < 8 * len := by rw [hbt, drawnN]; exact Nat.mod_lt _ (by omega)
      have HD2 : Hid (∀ (n' : Nat) (w' : World), CallsIn NF n' Try.prog 55 #[.int .u64 (y : Int), .int .i64 (8 * (len : Int))] w' fun e w2 => e = .returned (.int .i64 (bt : Int)) ∧ w' = w2) := Lib.hid (fun n' w' => by
        have := drawn_in NF n' trivial rfl y (8 * len) w' hylt.out (by omega) (by omega)
        rw [hbt]; exact this)
      have HY := Lib.hid hy
      clear hy hbt
      obtain ⟨q, hq⟩ : ∃ q, q = bt / 8 := ⟨_, rfl⟩
      obtain ⟨sh, hsh⟩ : ∃ sh, sh = bt % 8 := ⟨_, rfl⟩
      have hq1 : (bt : Int) / 8 = (q : Int) := by omega
      have hs1 : (bt : Int) % 8 = (sh : Int) := by omega
      have hq2 : q < len := by omega
      have hs2 : sh < 8 := by omega
      obtain ⟨v, hv⟩ : ∃ v, v = turns o len k h f (o + q) := ⟨_, rfl⟩
      have hv2 : v < 256 := by rw [hv]; exact turns_lt o len k h f HFF.out _
      have cv : wr.cell? ⟨g, o + q, none⟩ = some (.int .u8 (v : Int)) := by rw [hv]; exact hR.out.cell _ (by omega)
      have fv : wr.frozen? ⟨g, o + q, none⟩ = false := hR.out.free _ (by omega)
      have HV := Lib.hid hv
      have HQ := Lib.hid hq
      have HSH := Lib.hid hsh
      clear hv hq hsh
      gi_wp2_with (gi_at_call 55; ((with_reducible refine (HD2.out _ _).mono ?_); rintro e w' ⟨rfl, rfl⟩))
      gi_region
      all_goals gi_wp2
      have hp : ((2 : Int) ^ sh % 256) = ((2 ^ sh : Nat) : Int) := by
        have h1 : (2 : Int) ^ sh = ((2 ^ sh : Nat) : Int) := by rw [Int.natCast_pow]; rfl
        have h2 := pow_shift sh hs2
        rw [h1]
        generalize (2 ^ sh : Nat) = z at h2 ⊢
        omega
      have hx8 : bits .xor .u8 (v : Int) ((2 : Int) ^ sh % 256) = ((v ^^^ 2 ^ sh : Nat) : Int) := by rw [hp]; exact u8_xor_nat v (2 ^ sh) hv2 (pow_shift sh hs2)
      rw [hx8]
      refine ⟨⟨k + 1, by omega, ?_, by go_num, Lib.hid ?_, Lib.hid ((hU.out.setCell (p := ⟨g, o + q, none⟩) (.inl rfl) _).drew)⟩, ?_⟩
      · rw [HY.out, HX.out, stepsH_succ]
      · refine (hR.out.set (o + q) (v ^^^ 2 ^ sh)).congr (fun j _ => ?_)
        rw [turns_succ, stepsH_succ, ← HX.out, ← HY.out, ← HBT.out, turnBit, ← HQ.out, ← HSH.out]
        by_cases e : j = o + q
        · subst e; rw [if_pos rfl, if_pos rfl, HV.out]
        · rw [if_neg e, if_neg e]
      · simp [intOf]; omega
    · have hd1 : decide ((k : Int) < (t : Int) + 1) = false := decide_eq_false (by omega)
      gi_wp2
      go_end0
      have hkt : k = t + 1 := by omega
      refine ⟨rfl, ?_, hU.out⟩
      have := hR.out
      rw [hkt, HT.out] at this
      exact this
end Go.Proofs.Ytibkdoomnidndaa
