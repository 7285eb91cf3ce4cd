/- speaks; PackScripts. -/
import Derived.Test.YtpbfealmhonbnaaQd
import Derived.Deep.CutRange
import Derived.DataShut
namespace Go.Proofs.Ytpbfealmhonbnaa
open Go.RowKit

theorem spk1 (g : Nat) (w : World) (h : w.heap[g]? = some (.cells #[.int .i64 3, .int .i64 0, .int .i64 0, .slice none 0 0] 50 (0, 0))) :
    Calls Try.prog 11 #[.pointer (some ⟨g, 0, none⟩), .string ⟨#[97, 98]⟩] w fun e w' => e = .returned (.tuple #[.string ⟨#[]⟩, .bool false, .int .i64 0]) ∧ PK w' w.heap.size g 3 (ByteArray.mk #[97, 98]).data.toList 0 ∧ Turn w.heap.size g w w' := by
  have e : addQ 3 ⟨#[]⟩ ⟨#[97, 98]⟩ = (⟨#[]⟩, false, 0, ⟨#[97, 98]⟩, 0) := by decide +kernel
  have := add_any w.heap.size g 3 0 ⟨#[]⟩ ⟨#[97, 98]⟩ w (PK.start (s := 3) h (Upd.refl _ _) (by decide) (by decide) (lt_of_block h) (Nat.le_refl _)) (by decide) (by decide)
  rw [e] at this
  exact this
theorem spk2 (B g : Nat) (w : World) (h : PK w B g 3 (ByteArray.mk #[97, 98]).data.toList 0) :
    Calls Try.prog 11 #[.pointer (some ⟨g, 0, none⟩), .string ⟨#[99]⟩] w fun e w' => e = .returned (.tuple #[.string ⟨#[]⟩, .bool false, .int .i64 0]) ∧ PK w' B g 3 (ByteArray.mk #[97, 98, 99]).data.toList 0 ∧ Turn B g w w' := by
  have e : addQ 3 ⟨#[97, 98]⟩ ⟨#[99]⟩ = (⟨#[]⟩, false, 0, ⟨#[97, 98, 99]⟩, 0) := by decide +kernel
  have := add_any B g 3 0 ⟨#[97, 98]⟩ ⟨#[99]⟩ w h (by decide) (by decide)
  rw [e] at this
  exact this
theorem spk3 (B g : Nat) (w : World) (h : PK w B g 3 (ByteArray.mk #[97, 98, 99]).data.toList 0) :
    Calls Try.prog 11 #[.pointer (some ⟨g, 0, none⟩), .string ⟨#[100]⟩] w fun e w' => e = .returned (.tuple #[.string ⟨#[97, 98, 99]⟩, .bool true, .int .i64 0]) ∧ Turn B g w w' := by
  have e : addQ 3 ⟨#[97, 98, 99]⟩ ⟨#[100]⟩ = (⟨#[97, 98, 99]⟩, true, 0, ⟨#[100]⟩, 1) := by decide +kernel
  have := add_any B g 3 0 ⟨#[97, 98, 99]⟩ ⟨#[100]⟩ w h (by decide) (by decide)
  rw [e] at this
  exact this.mono fun _ _ h => ⟨h.1, h.2.2⟩
set_option maxRecDepth 20000 in
theorem speaksQ (w : World) : Calls Try.prog 6 #[] w fun e w' => e = .returned (.bool true) ∧ Upd noBlock w w' := by
  have HN := Lib.hid (fun w => packNew 3 w (by decide) (by decide))
  go_enter Try.func6, Try.ntmps6
  go_wp2_with (first
    | (go_at_call 7; (with_reducible refine (HN.out _).mono ?_); rintro e w1 ⟨g, rfl, hg, hb, hu⟩; have HG := Lib.hid hg; have HB := Lib.hid hb; have HU := Lib.hid hu; clear hg hb hu)
    | (go_at_call 11; (with_reducible refine (spk1 g _ HB.out).mono ?_); rintro e w2 ⟨rfl, hp, ht⟩; have HP2 := Lib.hid hp; have HT2 := Lib.hid ht; clear hp ht)
    | (go_at_call 11; (with_reducible refine (spk2 _ g _ HP2.out).mono ?_); rintro e w3 ⟨rfl, hp, ht⟩; have HP3 := Lib.hid hp; have HT3 := Lib.hid ht; clear hp ht)
    | (go_at_call 11; (with_reducible refine (spk3 _ g _ HP3.out).mono ?_); rintro e w4 ⟨rfl, ht⟩; have HT4 := Lib.hid ht; clear ht))
  go_ret
  exact ⟨rfl, ((HT2.out.trans HT3.out).trans HT4.out).upd HU.out HU.out.size (.inr HG.out)⟩

/-- the two packers side by side -/
structure LQ (w0 w : World) (B g d s : Nat) (H : ByteArray) (p : Nat) : Prop where
  pk : PK w B g s H.data.toList p
  rk : RK w d s H p
  up : Upd noBlock w0 w
  hB : w0.heap.size ≤ B
  hg : w0.heap.size ≤ g
  hd : w0.heap.size ≤ d
  dB : d < B
  ne : d ≠ g
theorem LQ.prog {w0 w w1 : World} {B g d s : Nat} {H : ByteArray} {p : Nat} (h : LQ w0 w B g d s H p) (ht : Turn B g w w1) : RK w1 d s H p ∧ Upd noBlock w0 w1 :=
  ⟨(ht.block d h.dB h.ne).trans h.rk, ht.upd h.up h.hB (.inr h.hg)⟩
theorem LQ.ref {w0 w w1 w2 : World} {B g d s : Nat} {H H' : ByteArray} {p p' : Nat} (h : LQ w0 w B g d s H p) (hp : PK w1 B g s H'.data.toList p') (hu1 : Upd noBlock w0 w1) (hr : RK w2 d s H' p') (hu : Upd (oneBlock d) w1 w2) : LQ w0 w2 B g d s H' p' :=
  ⟨hp.other h.dB h.ne hu, hr, hu1.step hu (fun i hi e => by have e : i = d := e; have := h.hd; omega), h.hB, h.hg, h.hd, h.dB, h.ne⟩
theorem LQ.upd {w0 w w1 : World} {B g d s : Nat} {H : ByteArray} {p : Nat} (h : LQ w0 w B g d s H p) (hu : Upd noBlock w w1) : LQ w0 w1 B g d s H p :=
  ⟨h.pk.upd hu, hu.cells h.rk (fun h => h), h.up.trans hu, h.hB, h.hg, h.hd, h.dB, h.ne⟩
/-- a program's call, the document's call, then Held -/
theorem held_anyQ (B g s p : Nat) (H : ByteArray) (w : World) (h : PK w B g s H.data.toList p) :
    Calls Try.prog 13 #[.pointer (some ⟨g, 0, none⟩)] w fun e w' => e = .returned (.tuple #[.int .i64 (H.size : Int), .int .i64 (p : Int)]) ∧ Upd noBlock w w' := held_any B g s p _ w h
set_option maxRecDepth 100000 in
set_option maxHeartbeats 1600000 in
theorem packScripts_any (x : Int) (a : Option Addr) (n c : Nat) (Ss : List ByteArray) (w : World) (hr : Strs w w.heap.size a n Ss) (hn : n ≤ 8796093021952) (h1 : -9223372036854775808 ≤ x) (h2 : x ≤ 9223372036854775807) :
    Calls Try.prog 3 #[.int .i64 x, .slice a n c] w fun e w' => e = .returned (.bool true) ∧ Upd noBlock w w' := by
  have HS := Lib.hid hr
  have HN := Lib.hid hn
  have hnb : n ≤ 9223372036854775807 := by omega
  have HSP := Lib.hid (fun w => speaksQ w)
  have HNW := Lib.hid (fun w => packNew x w h1 h2)
  have HSZ := Lib.hid (fun w => refSize x w h1 h2)
  obtain ⟨s, hs⟩ : ∃ s, szQ x = s := ⟨_, rfl⟩
  have hs12 := szQ_le x
  rw [hs] at HNW HSZ hs12
  have HS1 := Lib.hid hs12
  clear hr hn hs hs12
  go_enter Try.func3, Try.ntmps3
  go_wp2_with (first
    | (go_at_call 6; (with_reducible refine (HSP.out _).mono ?_); rintro e w1 ⟨rfl, u1⟩; have U1 := Lib.hid u1; clear u1)
    | (go_at_call 7; (with_reducible refine (HNW.out _).mono ?_); rintro e w2 ⟨g, rfl, hg, hb, hu⟩; have HG := Lib.hid hg; have HB := Lib.hid hb; have HU := Lib.hid hu; clear hg hb hu)
    | (go_at_call 8; (with_reducible refine (HSZ.out _).mono ?_); rintro e w3 ⟨rfl, rfl⟩))
  have HL0 : Hid (LQ w (w2.alloc (.cells #[.int .i64 (s : Int), .int .i64 0, .string ⟨#[]⟩] 29)) (w2.heap.size + 1) g w2.heap.size s ⟨#[]⟩ 0) := by
    have hu : Upd noBlock w w2 := U1.out.trans HU.out
    have hl := lt_of_block HB.out
    refine ⟨PK.start HB.out ((Upd.refl noBlock w2).alloc _) HS1.out.1 HS1.out.2 (by omega) (by rw [World.size_alloc]; omega), heap_alloc_new w2 _, hu.alloc _, Nat.le_trans hu.size (Nat.le_succ _), Nat.le_trans U1.out.size HG.out, hu.size, Nat.lt_succ_self _, by omega⟩
  generalize hwb : w2.alloc (.cells #[.int .i64 (s : Int), .int .i64 0, .string ⟨#[]⟩] 29) = wb at *
  generalize hB : w2.heap.size + 1 = B at *
  generalize hd : w2.heap.size = d at *
  clear hwb hB hd HB HG HU U1 HNW HSZ HSP
  go_loopw [7] (fun i wr => ∃ (k p : Nat) (H : ByteArray), k ≤ n ∧ p ≤ k ∧ i = .int .i64 (k : Int) ∧ Hid (H.size ≤ s) ∧ Hid (LQ w wr B g d s H p)) (fun i _ => n - (intOf i).toNat)
  case atStart => exact ⟨0, 0, ⟨#[]⟩, Nat.zero_le _, Nat.le_refl _, rfl, Nat.zero_le _, HL0⟩
  case round =>
    clear HL0
    obtain ⟨k, p, H, hk, hp, rfl, HH, HL⟩ := hrel
    by_cases h0 : k < n
    · have HSr := Lib.hid (HS.out.grow HL.out.up (Nat.le_refl _))
      obtain ⟨b, off, hab, hb, hc⟩ := HSr.out.cell (by omega)
      subst hab
      have hsz := HSr.out.at h0
      obtain ⟨q, hq⟩ : ∃ q, Ss.getD k ⟨#[]⟩ = q := ⟨_, rfl⟩
      have HC : Hid (∀ W : World, Upd noBlock w W → W.cell? ⟨b, off + k, none⟩ = some (.string q)) := fun W hu => by
        obtain ⟨b', off', e, hb', hc'⟩ := (HS.out.grow hu (Nat.le_refl _)).cell (by omega)
        simp only [Option.some.injEq, Addr.mk.injEq] at e
        obtain ⟨rfl, rfl, _⟩ := e
        rw [← hq]; exact hc' k h0
      have c1 := HC.out wr HL.out.up
      rw [hq] at hsz
      have HF := Lib.hid hsz
      have hpb : p < 4611686018427387904 := by have := HN.out; omega
      have HPB := Lib.hid hpb
      clear hc hq hsz hpb
      by_cases hf : (q.toList == [102, 108, 117, 115, 104]) = true
      · have HA := Lib.hid (flush_any B g s p H wr HL.out.pk HPB.out)
        have HD : Hid (∀ w3, Turn B g wr w3 → Calls Try.prog 10 #[.pointer (some ⟨d, 0, none⟩)] w3 fun e w' => e = .returned (.tuple #[.string H, .bool (decide (0 < H.size))]) ∧ RK w' d s ⟨#[]⟩ (p + (if 0 < H.size then 1 else 0)) ∧ Upd (oneBlock d) w3 w') := fun w3 ht => refFlush d s p H w3 (HL.out.prog ht).1 HPB.out
        have hp' : p + (if 0 < H.size then 1 else 0) ≤ k + 1 := by split <;> omega
        generalize p + (if 0 < H.size then 1 else 0) = p' at *
        go_wp2_with (first
          | (go_at_call 9; (with_reducible refine HA.out.mono ?_); rintro e w3 ⟨rfl, hp3, ht3⟩; have HP3 := Lib.hid hp3; have HT3 := Lib.hid ht3; clear hp3 ht3)
          | (go_at_call 10; (with_reducible refine (HD.out _ HT3.out).mono ?_); rintro e w4 ⟨rfl, hr4, hu4⟩; have HL4 := Lib.hid (HL.out.ref HP3.out (HL.out.prog HT3.out).2 hr4 hu4); clear hr4 hu4)
          | (go_at_call 13; (with_reducible refine (held_anyQ B g s p' ⟨#[]⟩ _ HL4.out.pk).mono ?_); rintro e w5 ⟨rfl, hu5⟩; have HL5 := Lib.hid (HL4.out.upd hu5); clear hu5; have d1 : w5.cell? ⟨d, 1, none⟩ = some (.int .i64 (p' : Int)) := cell_of HL5.out.rk 1; have d2 : w5.cell? ⟨d, 2, none⟩ = some (.string ⟨#[]⟩) := cell_of HL5.out.rk 2))
        go_roundw
        case rel => exact ⟨k + 1, p', ⟨#[]⟩, by omega, hp', by go_num, Nat.zero_le _, HL5⟩
        case measure => simp [intOf]; omega
      · have hf' : (q.toList == [102, 108, 117, 115, 104]) = false := by simpa using hf
        clear hf
        have HA := Lib.hid (add_any B g s p H q wr HL.out.pk HF.out HPB.out)
        have HD : Hid (∀ w3, Turn B g wr w3 → Calls Try.prog 12 #[.pointer (some ⟨d, 0, none⟩), .string q] w3 fun e w' => e = .returned (.tuple #[.string (addQ s H q).1, .bool (addQ s H q).2.1, .int .i64 (addQ s H q).2.2.1]) ∧ RK w' d s (addQ s H q).2.2.2.1 (p + (addQ s H q).2.2.2.2) ∧ Upd (oneBlock d) w3 w') := fun w3 ht => refAdd d s p H q w3 (HL.out.prog ht).1 HH.out HS1.out.2 HF.out HPB.out
        have hz := addQ_size s H q HH.out
        have ho := addQ_one s H q
        have hmax : (addQ s H q).2.2.2.1.size ≤ 9223372036854775807 := by have := HS1.out.2; omega
        generalize addQ s H q = A at *
        obtain ⟨r1, r2, r3, H', dp⟩ := A
        simp only at HA HD hz ho hmax
        have HZ := Lib.hid hz
        have hp' : p + dp ≤ k + 1 := by omega
        clear hz ho
        generalize p + dp = p' at *
        go_wp2_with (first
          | (go_at_call 11; (with_reducible refine HA.out.mono ?_); rintro e w3 ⟨rfl, hp3, ht3⟩; have HP3 := Lib.hid hp3; have HT3 := Lib.hid ht3; clear hp3 ht3; have c3 := HC.out w3 (HL.out.prog HT3.out).2)
          | (go_at_call 12; (with_reducible refine (HD.out _ HT3.out).mono ?_); rintro e w4 ⟨rfl, hr4, hu4⟩; have HL4 := Lib.hid (HL.out.ref HP3.out (HL.out.prog HT3.out).2 hr4 hu4); clear hr4 hu4)
          | (go_at_call 13; (with_reducible refine (held_anyQ B g s p' H' _ HL4.out.pk).mono ?_); rintro e w5 ⟨rfl, hu5⟩; have HL5 := Lib.hid (HL4.out.upd hu5); clear hu5; have d1 : w5.cell? ⟨d, 1, none⟩ = some (.int .i64 (p' : Int)) := cell_of HL5.out.rk 1; have d2 : w5.cell? ⟨d, 2, none⟩ = some (.string H') := cell_of HL5.out.rk 2))
        go_roundw
        case rel => exact ⟨k + 1, p', H', by omega, hp', by go_num, HZ.out, HL5⟩
        case measure => simp [intOf]; omega
    · obtain rfl : k = n := by omega
      go_wp2_with (first
        | (go_at_call 11; (with_reducible refine (add_nil _ _).mono ?_); rintro e w3 ⟨rfl, rfl⟩)
        | (go_at_call 9; (with_reducible refine (flush_nil _).mono ?_); rintro e w3 ⟨rfl, rfl⟩)
        | (go_at_call 13; (with_reducible refine (held_nil _).mono ?_); rintro e w3 ⟨rfl, rfl⟩))
      go_ret
      exact ⟨rfl, HL.out.up⟩
theorem packScripts_walk (x : Int) (a : Option Addr) (n c : Nat) (Ss : List ByteArray) (w : World) (wx : (Lit.int .i64 x).wf = true) (hr : Strs w w.heap.size a n Ss) (hn : n ≤ 8796093021952) :
    Calls Try.prog 3 #[.int .i64 x, .slice a n c] w fun e w' => e = .returned (.bool true) ∧ Below w.heap.size w w' := by
  obtain ⟨h1, h2⟩ := (Lit.wf_int_iff .i64 x).1 wx
  exact Calls.mono (packScripts_any x a n c Ss w hr hn h1 h2) fun _ _ (h : _ ∧ Upd noBlock w _) => ⟨h.1, h.2.below (fun _ _ h => h)⟩
end Go.Proofs.Ytpbfealmhonbnaa
