/- Encode. -/
import Derived.Test.YtpfmdlmnmagkmaaIf
import Derived.Test.YtpfmdlmnmagkmaaIg
namespace Go.Proofs.Ytpfmdlmnmagkmaa
open Go.RowKit Pm Gfm
attribute [local irreducible] Pm.exps pmul mp GG mpol tl tabA byteStep tailR stepsV stepS remOf textL

/-- the parity of a chunk -/
def parT (t : Nat) (l : List UInt8) : List UInt8 := textL (remOf (stepS t) l) ((13 * t + 7) / 8)
set_option maxRecDepth 100000 in
set_option maxHeartbeats 1600000 in
theorem encode_any (c t k : Nat) (s : ByteArray) (w : World) (h : CodeP w c t (k : Int)) (ht1 : 1 ≤ t) (ht8 : t ≤ 8) (hs : s.size ≤ maxLen) (hk : s.size = k) :
    Calls Try.prog 11 #[.pointer (some ⟨c, 0, none⟩), .string s] w fun e w' => e = .returned (.tuple #[.string ⟨(parT t s.data.toList).toArray⟩, .int .i64 0]) ∧ Made w' c t (k : Int) ∧ Upd (oneBlock c) w w' ∧ (Made w c t (k : Int) → Upd noBlock w w') := by
  have HR := Lib.hid (ready_any c t k w h ht1 ht8)
  have HREM := Lib.hid (fun W (hW : Made W c t (k : Int)) => remainderOf_any c t k s W hW ht1 ht8 hs)
  have HPAR := Lib.hid (fun W (hW : Made W c t (k : Int)) => parity_any c t k W hW.code ht1 ht8)
  have HTXT := Lib.hid (fun W => text_any (remOf (stepS t) s.data.toList) ((13 * t + 7) / 8) W (remOf_ok t _ ht1 ht8) (by omega))
  obtain ⟨d, hd⟩ : ∃ d, parT t s.data.toList = d := ⟨_, rfl⟩
  have hd' : textL (remOf (stepS t) s.data.toList) ((13 * t + 7) / 8) = d := hd
  rw [hd]
  rw [hd'] at HTXT
  generalize remOf (stepS t) s.data.toList = r at *
  generalize (13 * t + 7) / 8 = n at *
  have hne : ((s.size : Int) == (k : Int)) = true := beq_iff_eq.2 (by omega)
  have hne2 : ((s.size : Int) != (k : Int)) = false := by simp [hk]
  clear h hd hd'
  unfold maxLen at hs
  unfold Rm.agg at HREM HTXT
  subst hk
  go_enter Try.func11, Try.ntmps11
  go_wp2_with (first
    | (go_at_call 18; refine HR.out.mono ?_; rintro e w1 ⟨rfl, hm1, hu1, hn1⟩; have HM1 := Lib.hid hm1; have HU1 := Lib.hid hu1; have HN1 := Lib.hid hn1; have kk := HM1.out.k; clear hm1 hu1 hn1)
    | (go_at_call 19; refine (HREM.out _ HM1.out).mono ?_; rintro e w2 ⟨rfl, u2⟩; have HM2 := Lib.hid (HM1.out.keep u2); have HU2 := Lib.hid u2; clear u2)
    | (go_at_call 13; refine (HPAR.out _ HM2.out).mono ?_; rintro e w3 ⟨rfl, hm3, hu3, hn3⟩; have HM3 := Lib.hid hm3; have HU3 := Lib.hid (hn3 HM2.out); clear hm3 hu3 hn3)
    | (go_at_call 20; refine (HTXT.out _).mono ?_; rintro e w4 ⟨rfl, u4⟩; have HM4 := Lib.hid (HM3.out.keep u4); have HU4 := Lib.hid ((HU2.out.trans HU3.out).trans u4); clear u4))
  go_ret2
  exact ⟨rfl, HM4.out, HU1.out.trans HU4.out.one, fun h => (HN1.out h).trans HU4.out⟩

set_option maxRecDepth 100000 in
set_option maxHeartbeats 1600000 in
/-- data of another length -/
theorem encode_off (c t k : Nat) (s : ByteArray) (w : World) (h : CodeP w c t (k : Int)) (ht1 : 1 ≤ t) (ht8 : t ≤ 8) (hk : ¬ s.size = k) :
    Calls Try.prog 11 #[.pointer (some ⟨c, 0, none⟩), .string s] w fun e w' => e = .returned (.tuple #[.string ⟨#[]⟩, .int .i64 2]) ∧ Made w' c t (k : Int) ∧ Upd (oneBlock c) w w' ∧ (Made w c t (k : Int) → Upd noBlock w w') := by
  have HR := Lib.hid (ready_any c t k w h ht1 ht8)
  have hne : ((s.size : Int) == (k : Int)) = false := beq_eq_false_iff_ne.2 (by omega)
  have hne2 : ((s.size : Int) != (k : Int)) = true := by rw [bne, hne]; rfl
  have hne3 : ¬ (s.size : Int) = (k : Int) := by omega
  clear h hk
  go_enter Try.func11, Try.ntmps11
  go_wp2_with (first
    | (go_at_call 18; refine HR.out.mono ?_; rintro e w1 ⟨rfl, hm1, hu1, hn1⟩; have HM1 := Lib.hid hm1; have HU1 := Lib.hid hu1; have HN1 := Lib.hid hn1; have kk := HM1.out.k; clear hm1 hu1 hn1))
  go_ret2
  exact ⟨rfl, HM1.out, HU1.out, HN1.out⟩

set_option maxRecDepth 100000 in
set_option maxHeartbeats 1600000 in
/-- on no code at all -/
theorem encode_nil (s : ByteArray) (w : World) :
    Calls Try.prog 11 #[.pointer none, .string s] w fun e w' => e = .returned (.tuple #[.string ⟨#[]⟩, .int .i64 1]) ∧ Upd noBlock w w' := by
  have HR : Hid (Calls Try.prog 18 #[.pointer none] w fun e w' => e = .returned (.bool false) ∧ Upd noBlock w w') := by
    show Calls _ _ _ _ _
    go_enter Try.func18, Try.ntmps18
    go_wp2
    go_ret
    exact ⟨rfl, (Upd.refl _ _).alloc _⟩
  go_enter Try.func11, Try.ntmps11
  go_wp2_with (first
    | (go_at_call 18; refine HR.out.mono ?_; rintro e w1 ⟨rfl, hu1⟩; have HU1 := Lib.hid hu1; clear hu1))
  go_ret2
  exact ⟨rfl, HU1.out⟩
end Go.Proofs.Ytpfmdlmnmagkmaa
