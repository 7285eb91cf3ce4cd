/- Decode: its answer as one value; what is of another length; no code at all. -/
import Derived.Test.YtjfbbnmonfankaaKNL
import Derived.Test.YtjfbbnmonfankaaKIq
import Derived.Test.YtjfbbnmonfankaaKIp
namespace Go.Proofs.Ytjfbbnmonfankaa
open F
open Go.RowKit Pm
set_option linter.unusedVariables false

open Classical in
noncomputable def decA (t k : Nat) (data par : ByteArray) : Option (List Nat) :=
  if h : ∃ ps, Good t (8 * k + 13 * t) (restOf t data par) ps then some (Classical.choose h) else none
theorem decA_eq {t k : Nat} {data par : ByteArray} {a : Option (List Nat)} (h : ∀ ps, Good t (8 * k + 13 * t) (restOf t data par) ps ↔ a = some ps) : a = decA t k data par := by
  unfold decA
  by_cases hx : ∃ ps, Good t (8 * k + 13 * t) (restOf t data par) ps
  · rw [dif_pos hx]; exact (h _).1 (Classical.choose_spec hx)
  · rw [dif_neg hx]
    cases a with
    | none => rfl
    | some ps => exact absurd ⟨ps, (h ps).2 rfl⟩ hx
theorem decA_some {t k : Nat} {data par : ByteArray} {ps : List Nat} (h : decA t k data par = some ps) : Good t (8 * k + 13 * t) (restOf t data par) ps := by
  unfold decA at h
  by_cases hx : ∃ ps, Good t (8 * k + 13 * t) (restOf t data par) ps
  · rw [dif_pos hx] at h
    rw [← Option.some.inj h]; exact Classical.choose_spec hx
  · rw [dif_neg hx] at h; cases h
theorem decA_of {t k : Nat} {data par : ByteArray} {ps : List Nat} (hN : 8 * k + 13 * t ≤ 8191) (h : Good t (8 * k + 13 * t) (restOf t data par) ps) : decA t k data par = some ps := by
  unfold decA
  have hx : ∃ ps, Good t (8 * k + 13 * t) (restOf t data par) ps := ⟨ps, h⟩
  rw [dif_pos hx, good_unique hN (Classical.choose_spec hx) h]
theorem decode_eq (c t k : Nat) (data par : ByteArray) (w : World) (h : CodeP w c t (k : Int)) (ht1 : 1 ≤ t) (ht8 : t ≤ 8) (hk1 : 1 ≤ k) (hk : k ≤ 256) (hd : data.size = k) (hp : par.size = (13 * t + 7) / 8) :
    Calls Try.prog 16 #[.pointer (some ⟨c, 0, none⟩), .string data, .string par] w fun e w' => e = decAns t k data par (decA t k data par) ∧ Made w' c t (k : Int) ∧ Upd (oneBlock c) w w' :=
  (decode_any c t k data par w h ht1 ht8 hk1 hk hd hp).mono fun e w' ⟨a, ha, he, hm, hu⟩ => ⟨by rw [he, decA_eq ha], hm, hu⟩
/-- a code word is answered as it is, whatever its few turned bits -/
theorem decAns_flips (t : Nat) (h1 : 1 ≤ t) (h8 : t ≤ 8) (l : List UInt8) (hl : l.length ≤ 256) (qs : List Nat) (hn : qs.Nodup) (hq : ∀ q ∈ qs, q < 8 * l.length + 13 * t) (data par : ByteArray) (hd : data.size = l.length) (hp : par.size = (13 * t + 7) / 8)
    (hw : wordOf t data par = flips (l ++ parT t l) qs) (hqt : qs.length ≤ t) : decAns t l.length data par (decA t l.length data par) = .returned (.tuple #[.string ⟨l.toArray⟩, .string ⟨(parT t l).toArray⟩, .int .i64 (qs.length : Int), .bool true]) := by
  obtain ⟨hg, ht⟩ := good_flips t h1 h8 l hl qs hn hq data par hd hp hw hqt
  rw [decA_of (by omega) hg]
  unfold decAns
  simp only [ht, List.take_left, List.drop_left, expo_length hn hq]
set_option maxRecDepth 100000 in
set_option maxHeartbeats 1600000 in
theorem decode_off (c t k : Nat) (data par : ByteArray) (w : World) (h : CodeP w c t (k : Int)) (ht1 : 1 ≤ t) (ht8 : t ≤ 8) (hds : data.size ≤ maxLen) (hps : par.size ≤ maxLen) (hbad : ¬ (data.size = k ∧ par.size = (13 * t + 7) / 8)) :
    Calls Try.prog 16 #[.pointer (some ⟨c, 0, none⟩), .string data, .string par] w fun e w' => e = .returned (.tuple #[.string ⟨#[]⟩, .string ⟨#[]⟩, .int .i64 0, .bool false]) ∧ Made w' c t (k : Int) ∧ Upd (oneBlock c) w w' := by
  have hnot : ∀ (x : Bool) (w : World), (Op.unary .not (.bool x)).run Try.prog w = .ok (.bool (!x)) w := fun _ _ => rfl
  have HR := Lib.hid (ready_any c t (k : Int) w h ht1 ht8)
  have HPAR := Lib.hid (fun W (hW : Made W c t (k : Int)) => parity_any c t (k : Int) W hW.code ht1 ht8)
  unfold maxLen at hds hps
  generalize (13 * t + 7) / 8 = n at *
  by_cases hk : data.size = k
  · have hpn : par.size ≠ n := fun e => hbad ⟨hk, e⟩
    have e1 : ((data.size : Int) != (k : Int)) = false := by rw [bne_eq_false_iff_eq]; omega
    have e2 : ((par.size : Int) != (n : Int)) = true := by rw [bne_iff_ne]; omega
    clear h hk hpn hbad
    go_enter Try.func16, Try.ntmps16
    go_wp2_with (first
      | (go_at_call 18; refine HR.out.mono ?_; rintro e w1 ⟨rfl, hm1, hu1, hn1⟩; have M1 := Lib.hid hm1; have D1 := Lib.hid hu1; have k1 := hm1.k; clear hm1 hu1 hn1)
      | (go_at_call 13; refine (HPAR.out _ M1.out).mono ?_; rintro e w2 ⟨rfl, hm2, hu2, _⟩; have M2 := Lib.hid hm2; have D2 := Lib.hid (D1.out.trans hu2); clear hm2 hu2))
    go_returns
    exact ⟨rfl, M2.out, D2.out⟩
  · have e1 : ((data.size : Int) != (k : Int)) = true := by rw [bne_iff_ne]; omega
    clear h hk hbad
    go_enter Try.func16, Try.ntmps16
    go_wp2_with (first
      | (go_at_call 18; refine HR.out.mono ?_; rintro e w1 ⟨rfl, hm1, hu1, hn1⟩; have M1 := Lib.hid hm1; have D1 := Lib.hid hu1; have k1 := hm1.k; clear hm1 hu1 hn1))
    go_returns
    exact ⟨rfl, M1.out, D1.out⟩
theorem ready_nil (w : World) : Calls Try.prog 18 #[.pointer none] w fun e w' => e = .returned (.bool false) ∧ Upd noBlock w w' := by
  go_enter Try.func18, Try.ntmps18
  go_wp2
  go_ret
  exact ⟨rfl, (Upd.refl _ _).alloc _⟩
set_option maxRecDepth 100000 in
theorem parity_nil (w : World) : Calls Try.prog 13 #[.pointer none] w fun e w' => e = .returned (.int .i64 0) ∧ Upd noBlock w w' := by
  have HR := Lib.hid (ready_nil w)
  have hnot : ∀ (x : Bool) (w : World), (Op.unary .not (.bool x)).run Try.prog w = .ok (.bool (!x)) w := fun _ _ => rfl
  go_enter Try.func13, Try.ntmps13
  go_wp2_with (go_at_call 18; refine HR.out.mono ?_; rintro e w1 ⟨rfl, hu1⟩; have U1 := Lib.hid hu1; clear hu1)
  go_ret
  exact ⟨rfl, U1.out⟩
set_option maxRecDepth 100000 in
theorem decode_nil (data par : ByteArray) (w : World) : Calls Try.prog 16 #[.pointer none, .string data, .string par] w fun e w' => e = .returned (.tuple #[.string ⟨#[]⟩, .string ⟨#[]⟩, .int .i64 0, .bool false]) ∧ Upd noBlock w w' := by
  have HR := Lib.hid (ready_nil w)
  have hnot : ∀ (x : Bool) (w : World), (Op.unary .not (.bool x)).run Try.prog w = .ok (.bool (!x)) w := fun _ _ => rfl
  go_enter Try.func16, Try.ntmps16
  go_wp2_with (go_at_call 18; refine HR.out.mono ?_; rintro e w1 ⟨rfl, hu1⟩; have U1 := Lib.hid hu1; clear hu1)
  go_returns
  exact ⟨rfl, U1.out⟩
end Go.Proofs.Ytjfbbnmonfankaa
