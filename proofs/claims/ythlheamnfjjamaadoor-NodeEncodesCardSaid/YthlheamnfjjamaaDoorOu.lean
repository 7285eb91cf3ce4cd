/- The document's Encode. -/
import Derived.Test.YthlheamnfjjamaaDoorOn
import Derived.Test.YthlheamnfjjamaaDoorOb
import Derived.Test.YthlheamnfjjamaaDoorCg
import Derived.Test.YthlheamnfjjamaaDoorKf
import Derived.Deep.RegionHeld3
import Derived.Laws.Concat
namespace Go.Proofs.YthlheamnfjjamaaDoor
open Go.RowKit Cm
attribute [local irreducible] beZ valN Cm.shs Cm.nxt Cm.reg Cm.ext
attribute [local go_sem ↓] Go.wp_at_zero Go.wp_at_succ

theorem encR_raw (fl : Int) (seq : Int) (k v : List UInt8) : (((([78] ++ beZ 1 fl) ++ beZ 8 seq) ++ beZ 1 (k.length : Int)) ++ beZ 2 (v.length : Int)) ++ k ++ v = ((([78] ++ beZ 1 fl) ++ beZ 8 seq) ++ (beZ 1 (k.length : Int) ++ beZ 2 (v.length : Int))) ++ k ++ v := by
  simp only [List.append_assoc]
theorem keepR {w w1 : World} {a b c d e : Value} {O : Obj} (HC : ∀ w1, Upd noBlock (w.alloc O) w1 → w1.cell? ⟨w.heap.size, 0, none⟩ = some a ∧ w1.cell? ⟨w.heap.size, 1, none⟩ = some b ∧ w1.cell? ⟨w.heap.size, 2, none⟩ = some c ∧ w1.cell? ⟨w.heap.size, 3, none⟩ = some d ∧ w1.cell? ⟨w.heap.size, 4, none⟩ = some e) (h : Upd noBlock (w.alloc O) w1) :
    w1.cell? ⟨w.heap.size, 0, none⟩ = some a ∧ w1.cell? ⟨w.heap.size, 1, none⟩ = some b ∧ w1.cell? ⟨w.heap.size, 2, none⟩ = some c ∧ w1.cell? ⟨w.heap.size, 3, none⟩ = some d ∧ w1.cell? ⟨w.heap.size, 4, none⟩ = some e ∧ Hid (Upd noBlock (w.alloc O) w1) :=
  let ⟨h0, h1, h2, h3, h4⟩ := HC w1 h
  ⟨h0, h1, h2, h3, h4, h⟩
set_option maxRecDepth 20000 in
set_option maxHeartbeats 3200000 in
theorem refEncode_bad (seq : Int) (gone last : Bool) (k v : List UInt8) (w : World) (hk : k.length ≤ maxLen) (hv : v.length ≤ maxLen) (hg : goodN seq gone k v = false) :
    Calls Tryd.prog 13 #[.agg #[.int .i64 seq, .bool gone, .bool last, .string ⟨k.toArray⟩, .string ⟨v.toArray⟩]] w fun e w' => e = .returned (.string ⟨[].toArray⟩) ∧ Upd noBlock w w' := by
  have HV := fun W => refGoodN_any seq gone last k v W hk hv
  rw [hg] at HV
  obtain ⟨qk, hqk⟩ : ∃ q : ByteArray, ⟨k.toArray⟩ = q := ⟨_, rfl⟩
  obtain ⟨qv, hqv⟩ : ∃ q : ByteArray, ⟨v.toArray⟩ = q := ⟨_, rfl⟩
  rw [hqk, hqv] at HV ⊢
  replace HV := Lib.hid HV
  have HB : Hid (Upd noBlock w (w.alloc (.cells #[.int .i64 seq, .bool gone, .bool last, .string qk, .string qv] 27))) := (Upd.refl _ _).alloc _
  clear hqk hqv hg hk hv
  go_enter Tryd.func13, Tryd.ntmps13
  go_wp2_with (go_at_call 14; (with_reducible refine (HV.out _).mono ?_); rintro e w1 ⟨rfl, h⟩; have HW := Lib.hid h; clear h)
  go_ret
  exact ⟨rfl, HB.out.trans HW.out⟩
set_option maxRecDepth 20000 in
set_option maxHeartbeats 3200000 in
theorem refEncode_good (seq : Int) (gone last : Bool) (k v : List UInt8) (w : World) (hk : k.length ≤ 64) (hv : v.length ≤ 200) (h0 : 0 ≤ seq) (h1 : seq ≤ 1099511627776) (hg : goodN seq gone k v = true) :
    Calls Tryd.prog 13 #[.agg #[.int .i64 seq, .bool gone, .bool last, .string ⟨k.toArray⟩, .string ⟨v.toArray⟩]] w fun e w' => e = .returned (.string ⟨(sealed (rawN seq gone last k v)).toArray⟩) ∧ Upd noBlock w w' := by
  have HV := fun W => refGoodN_any seq gone last k v W (by unfold maxLen; omega) (by unfold maxLen; omega)
  rw [hg] at HV
  have hfl0 : 0 ≤ flagN gone last ∧ flagN gone last ≤ 3 := by unfold flagN; rcases gone with _ | _ <;> rcases last with _ | _ <;> decide
  obtain ⟨fg, hfg⟩ : ∃ fg : Int, (if gone = true then 1 else 0) = fg := ⟨_, rfl⟩
  obtain ⟨fl', hfl'⟩ : ∃ fl' : Int, (if last = true then 1 else 0) = fl' := ⟨_, rfl⟩
  have hfl : flagN gone last = fg + 2 * fl' := by unfold flagN; rw [← hfg, ← hfl']; rcases gone with _ | _ <;> rcases last with _ | _ <;> rfl
  have hfb : 0 ≤ fg ∧ fg ≤ 1 ∧ 0 ≤ fl' ∧ fl' ≤ 1 := by rw [← hfg, ← hfl']; rcases gone with _ | _ <;> rcases last with _ | _ <;> decide
  have HF1 := fun W => refFlag_any gone W
  have HF2 := fun W => refFlag_any last W
  rw [hfg] at HF1
  rw [hfl'] at HF2
  generalize hfl9 : flagN gone last = fl at *
  have HJ1 := fun W => refBytesA 1 (by omega) 1 rfl fl (by omega) (by omega) W
  have HJ8 := fun W => refBytesA 8 (by omega) 8 rfl seq (by omega) (by omega) W
  have HJk := fun W => refBytesA 1 (by omega) 1 rfl (k.length : Int) (by omega) (by omega) W
  have HJv := fun W => refBytesA 2 (by omega) 2 rfl (v.length : Int) (by omega) (by omega) W
  have hraw : rawN seq gone last k v = (((([78] ++ beZ 1 fl) ++ beZ 8 seq) ++ beZ 1 (k.length : Int)) ++ beZ 2 (v.length : Int)) ++ k ++ v := by rw [encR_raw, ← hfl9]; rfl
  have HSL : ∀ W, _ := fun W => refSeal_any ⟨(rawN seq gone last k v).toArray⟩ W (by
    show (rawN seq gone last k v).length ≤ _
    rw [hraw]
    simp only [List.length_append, List.length_singleton, beZ_length]
    omega)
  obtain ⟨b1, hb1⟩ : ∃ b, beZ 1 fl = b := ⟨_, rfl⟩
  obtain ⟨b8, hb8⟩ : ∃ b, beZ 8 seq = b := ⟨_, rfl⟩
  obtain ⟨bk, hbk⟩ : ∃ b, beZ 1 (k.length : Int) = b := ⟨_, rfl⟩
  obtain ⟨bv, hbv⟩ : ∃ b, beZ 2 (v.length : Int) = b := ⟨_, rfl⟩
  have l1 : b1.length = 1 := by rw [← hb1]; exact beZ_length _ _
  have l8 : b8.length = 8 := by rw [← hb8]; exact beZ_length _ _
  have lk : bk.length = 1 := by rw [← hbk]; exact beZ_length _ _
  have lv : bv.length = 2 := by rw [← hbv]; exact beZ_length _ _
  rw [hb1, hb8, hbk, hbv] at hraw
  rw [hb1] at HJ1
  rw [hb8] at HJ8
  rw [hbk] at HJk
  rw [hbv] at HJv
  have e1 := cat_bytes [78] b1
  have e2 := cat_bytes ([78] ++ b1) b8
  have e3 := cat_bytes (([78] ++ b1) ++ b8) bk
  have e4 := cat_bytes ((([78] ++ b1) ++ b8) ++ bk) bv
  have e5 := cat_bytes (((([78] ++ b1) ++ b8) ++ bk) ++ bv) k
  have e6 := cat_bytes ((((([78] ++ b1) ++ b8) ++ bk) ++ bv) ++ k) v
  rw [← hraw] at e6
  obtain ⟨p1, hp1⟩ : ∃ q : ByteArray, ⟨b1.toArray⟩ = q := ⟨_, rfl⟩
  obtain ⟨p8, hp8⟩ : ∃ q : ByteArray, ⟨b8.toArray⟩ = q := ⟨_, rfl⟩
  obtain ⟨pk, hpk⟩ : ∃ q : ByteArray, ⟨bk.toArray⟩ = q := ⟨_, rfl⟩
  obtain ⟨pv, hpv⟩ : ∃ q : ByteArray, ⟨bv.toArray⟩ = q := ⟨_, rfl⟩
  obtain ⟨qk, hqk⟩ : ∃ q : ByteArray, ⟨k.toArray⟩ = q := ⟨_, rfl⟩
  obtain ⟨qv, hqv⟩ : ∃ q : ByteArray, ⟨v.toArray⟩ = q := ⟨_, rfl⟩
  obtain ⟨q1, hq1⟩ : ∃ q : ByteArray, ⟨([78] ++ b1).toArray⟩ = q := ⟨_, rfl⟩
  obtain ⟨q2, hq2⟩ : ∃ q : ByteArray, ⟨(([78] ++ b1) ++ b8).toArray⟩ = q := ⟨_, rfl⟩
  obtain ⟨q3, hq3⟩ : ∃ q : ByteArray, ⟨((([78] ++ b1) ++ b8) ++ bk).toArray⟩ = q := ⟨_, rfl⟩
  obtain ⟨q4, hq4⟩ : ∃ q : ByteArray, ⟨(((([78] ++ b1) ++ b8) ++ bk) ++ bv).toArray⟩ = q := ⟨_, rfl⟩
  obtain ⟨q5, hq5⟩ : ∃ q : ByteArray, ⟨((((([78] ++ b1) ++ b8) ++ bk) ++ bv) ++ k).toArray⟩ = q := ⟨_, rfl⟩
  obtain ⟨qr, hqr⟩ : ∃ q : ByteArray, ⟨(rawN seq gone last k v).toArray⟩ = q := ⟨_, rfl⟩
  obtain ⟨qs, hqs⟩ : ∃ q : ByteArray, ⟨(sealed (rawN seq gone last k v)).toArray⟩ = q := ⟨_, rfl⟩
  have z1 : p1.size = 1 := by rw [← hp1]; exact l1
  have z8 : p8.size = 8 := by rw [← hp8]; exact l8
  have zk : pk.size = 1 := by rw [← hpk]; exact lk
  have zv : pv.size = 2 := by rw [← hpv]; exact lv
  have y1 : q1.size = 2 := by rw [← hq1]; show ([78] ++ b1).length = 2; rw [List.length_append, l1]; rfl
  have y2 : q2.size = 10 := by rw [← hq2]; show (([78] ++ b1) ++ b8).length = 10; rw [List.length_append, List.length_append, l1, l8]; rfl
  have y3 : q3.size = 11 := by rw [← hq3]; show ((([78] ++ b1) ++ b8) ++ bk).length = 11; rw [List.length_append, List.length_append, List.length_append, l1, l8, lk]; rfl
  have y4 : q4.size = 13 := by rw [← hq4]; show (((([78] ++ b1) ++ b8) ++ bk) ++ bv).length = 13; rw [List.length_append, List.length_append, List.length_append, List.length_append, l1, l8, lk, lv]; rfl
  have hkz : qk.size = k.length := by rw [← hqk]; rfl
  have hvz : qv.size = v.length := by rw [← hqv]; rfl
  have y5 : q5.size = 13 + k.length := by
    rw [← hq5]
    show ((((([78] ++ b1) ++ b8) ++ bk) ++ bv) ++ k).length = 13 + k.length
    rw [List.length_append, List.length_append, List.length_append, List.length_append, List.length_append, l1, l8, lk, lv]; rfl
  have hsl' : ∀ W, Calls Tryd.prog 26 #[.string qr] W fun e w' => e = .returned (.string qs) ∧ Upd noBlock W w' := fun W => by
    rw [← hqr, ← hqs]
    exact HSL W
  rw [hp1] at HJ1
  rw [hp8] at HJ8
  rw [hpk] at HJk
  rw [hpv] at HJv
  rw [hp1, hq1] at e1
  rw [hq1, hp8, hq2] at e2
  rw [hq2, hpk, hq3] at e3
  rw [hq3, hpv, hq4] at e4
  rw [hq4, hqk, hq5] at e5
  rw [hq5, hqv, hqr] at e6
  rw [hqk, hqv] at HV ⊢
  rw [hqs]
  have w1 : IntKind.i64.wrap (2 * fl') = 2 * fl' := IntWalk.i64_in _ (by omega)
  have w2 : IntKind.i64.wrap (fg + 2 * fl') = fl := by rw [IntWalk.i64_in _ (by omega), hfl]
  have HSL2 := Lib.hid hsl'
  replace HV := Lib.hid HV
  replace HF1 := Lib.hid HF1
  replace HF2 := Lib.hid HF2
  replace HJ1 := Lib.hid HJ1
  replace HJ8 := Lib.hid HJ8
  replace HJk := Lib.hid HJk
  replace HJv := Lib.hid HJv
  have HB : Hid (Upd noBlock w (w.alloc (.cells #[.int .i64 seq, .bool gone, .bool last, .string qk, .string qv] 27))) := (Upd.refl _ _).alloc _
  have HC := Lib.hid (fun w1 h => node_box w w1 (.int .i64 seq) (.bool gone) (.bool last) (.string qk) (.string qv) 27 h)
  clear HSL hsl' hqr hqs hq5 hq4 hq3 hq2 hq1 hp1 hp8 hpk hpv hqk hqv hraw hg hfl hfl9 hfg hfl' hb1 hb8 hbk hbv l1 l8 lk lv
  go_enter Tryd.func13, Tryd.ntmps13
  go_upto_region 3 with (go_at_call 14; (with_reducible refine (HV.out _).mono ?_); rintro e w1 ⟨rfl, h⟩; have HW := Lib.hid h; obtain ⟨d0, d1, d2, d3, d4⟩ := HC.out _ h; clear h)
  go_cut [3] from 7 to 30 (fun x wx => x = .string q4 ∧ Hid (Upd noBlock (w.alloc (.cells #[.int .i64 seq, .bool gone, .bool last, .string qk, .string qv] 27)) wx))
  case first =>
    go_region_held3 (fun w' => w'.cell? ⟨w.heap.size, 0, none⟩ = some (.int .i64 seq) ∧ w'.cell? ⟨w.heap.size, 1, none⟩ = some (.bool gone) ∧ w'.cell? ⟨w.heap.size, 2, none⟩ = some (.bool last) ∧ w'.cell? ⟨w.heap.size, 3, none⟩ = some (.string qk) ∧ w'.cell? ⟨w.heap.size, 4, none⟩ = some (.string qv) ∧ Hid (Upd noBlock (w.alloc (.cells #[.int .i64 seq, .bool gone, .bool last, .string qk, .string qv] 27)) w'))
      (first | exact keepR HC.out HW9.out | exact keepR HC.out HW.out.drew | assumption | go_keep)
      (first
        | (go_at_call 41; (first | with_reducible refine (HF1.out _).mono ?_ | with_reducible refine (HF2.out _).mono ?_); rintro e w2 ⟨rfl, rfl⟩)
        | (go_at_call 22; (first | with_reducible refine (HJ1.out _).mono ?_ | with_reducible refine (HJ8.out _).mono ?_ | with_reducible refine (HJk.out _).mono ?_ | with_reducible refine (HJv.out _).mono ?_); rintro e w2 ⟨rfl, h⟩; go_split_ands; have HW9 : Hid (Upd noBlock (w.alloc (.cells #[.int .i64 seq, .bool gone, .bool last, .string qk, .string qv] 27)) w2) := Upd.trans (Hid.out (by assumption)) h; clear h))
    all_goals
      go_wp2_with fail
      go_meet
      exact ⟨rfl, by assumption⟩
  case rest =>
    obtain ⟨rfl, HX⟩ := hcut
    obtain ⟨n0, n1, n2, n3, n4⟩ := HC.out _ HX.out
    go_wp2_with (go_at_call 26; (with_reducible refine (HSL2.out _).mono ?_); rintro e w7 ⟨rfl, h⟩; have HY := Lib.hid (HX.out.trans h); clear h)
    go_ret
    exact ⟨rfl, HB.out.trans HY.out⟩
theorem refEncodeN_any (seq : Int) (gone last : Bool) (k v : List UInt8) (w : World) (hk : k.length ≤ maxLen) (hv : v.length ≤ maxLen) :
    Calls Tryd.prog 13 #[.agg #[.int .i64 seq, .bool gone, .bool last, .string ⟨k.toArray⟩, .string ⟨v.toArray⟩]] w fun e w' => e = .returned (.string ⟨(encN seq gone last k v).toArray⟩) ∧ Upd noBlock w w' := by
  unfold encN
  cases hg : goodN seq gone k v with
  | true =>
    rw [if_pos rfl]
    have hb := hg
    simp [goodN, okN] at hb
    exact refEncode_good seq gone last k v w (by omega) (by omega) (by omega) (by omega) hg
  | false =>
    rw [if_neg (by decide)]
    exact refEncode_bad seq gone last k v w hk hv hg
end Go.Proofs.YthlheamnfjjamaaDoor
