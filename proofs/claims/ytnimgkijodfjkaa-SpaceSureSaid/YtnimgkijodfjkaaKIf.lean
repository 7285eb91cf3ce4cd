/- Parity; what a generator leaves of a text. -/
import Derived.Test.YtnimgkijodfjkaaKIe
namespace Go.Proofs.Ytnimgkijodfjkaa
open Go.RowKit Pm Gfm

theorem u8_lt (b : UInt8) : b.toNat < 256 := b.toNat_lt
def stepS (t : Nat) : Nat → Rm := byteStep (tailR (13 * t) (tl t))
theorem stepS_ok (t q : Nat) (h1 : 1 ≤ t) (h8 : t ≤ 8) (hq : q < 256) : (stepS t q).Ok := byteStep_ok (tailR_ok _ _ (by omega)) q hq
theorem Made.step {w : World} {c t : Nat} {k : Int} (h : Made w c t k) (q : Nat) (hq : q < 256) :
    w.cell? ⟨c, 12 + q * 2, none⟩ = some (.int .u64 ((stepS t q).h : Int)) ∧ w.cell? ⟨c, 12 + q * 2 + 1, none⟩ = some (.int .u64 ((stepS t q).l : Int)) := by
  have e : ∀ j, (cS c t k (.int .u32 1) (.int .i32 0) ((13 * t : Nat) : Int) (stepsV t)).R (12 + j) = (tabA (stepS t))[j]? := fun j => by
    show cR t k (.int .u32 1) (.int .i32 0) ((13 * t : Nat) : Int) (tabA (stepS t)) (12 + j) = _
    unfold cR
    rw [if_neg (by omega), if_neg (by omega), if_neg (by omega), if_neg (by omega), if_neg (by omega), if_neg (by omega), if_pos (by omega), show 12 + j - 12 = j by omega]
  obtain ⟨n, h⟩ := h
  exact ⟨(Fld.out h.fld (12 + q * 2) (.inr (by show 5 + 6 ≤ _; omega))).trans ((e (q * 2)).trans (tabA_h _ _ hq)),
    (Fld.out h.fld (12 + q * 2 + 1) (.inr (by show 5 + 6 ≤ _; omega))).trans ((e (q * 2 + 1)).trans (tabA_l _ _ hq))⟩
def remStep (S : Nat → Rm) (r : Rm) (b : UInt8) : Rm := r.sh8.plus (S (r.first ^^^ b.toNat))
def remOf (S : Nat → Rm) (l : List UInt8) : Rm := l.foldl (remStep S) Rm.zero
theorem remOf_ok (t : Nat) (l : List UInt8) (h1 : 1 ≤ t) (h8 : t ≤ 8) : (remOf (stepS t) l).Ok := by
  unfold remOf
  suffices h : ∀ (l : List UInt8) (r : Rm), r.Ok → (l.foldl (remStep (stepS t)) r).Ok from h l _ Rm.zero_ok
  intro l
  induction l with
  | nil => exact fun r h => h
  | cons b l ih => exact fun r h => ih _ (Rm.Ok.plus h.sh8 (stepS_ok t _ h1 h8 (Nat.xor_lt_two_pow (n := 8) h.first (u8_lt b))))
theorem remOf_take (S : Nat → Rm) (s : ByteArray) (k : Nat) (h : k < s.size) : remOf S (s.data.toList.take (k + 1)) = remStep S (remOf S (s.data.toList.take k)) s[k] := by
  have hl : k < s.data.toList.length := by simpa using h
  rw [List.take_succ_eq_append_getElem hl]
  unfold remOf
  rw [List.foldl_append]
  rfl
attribute [local irreducible] Pm.exps pmul mp GG mpol tl tabA byteStep tailR stepsV stepS remOf

set_option maxRecDepth 100000 in
set_option maxHeartbeats 1600000 in
theorem parity_any (c t : Nat) (k : Int) (w : World) (h : CodeP w c t k) (ht1 : 1 ≤ t) (ht8 : t ≤ 8) :
    Calls Try.prog 19 #[.pointer (some ⟨c, 0, none⟩)] w fun e w' => e = .returned (.int .i64 (((13 * t + 7) / 8 : Nat) : Int)) ∧ Made w' c t k ∧ Upd (oneBlock c) w w' ∧ (Made w c t k → Upd noBlock w w') := by
  have HR := Lib.hid (ready_any c t k w h ht1 ht8)
  obtain ⟨d, hd⟩ : ∃ d, 13 * t = d := ⟨_, rfl⟩
  have HD : Hid (∀ W, Made W c t k → W.cell? ⟨c, 11, none⟩ = some (.int .i64 (d : Int))) := fun W hW => hd ▸ hW.deg
  have hb : d ≤ 104 := by omega
  rw [hd]
  have w1 : IntKind.i64.wrap ((d : Int) + 7) = ((d + 7 : Nat) : Int) := by rw [IntKind.wrap_i64]; omega
  have w2 : IntKind.i64.wrap (((d + 7 : Nat) : Int) / 8) = (((d + 7) / 8 : Nat) : Int) := by rw [IntKind.wrap_i64]; omega
  have w3 : ((d + 7 : Nat) : Int) / 8 = (((d + 7) / 8 : Nat) : Int) := by omega
  clear h hd
  go_enter Try.func19, Try.ntmps19
  go_wp2_with (go_at_call 30; refine HR.out.mono ?_; rintro e w' ⟨rfl, hm, hu, hn⟩; have kd := HD.out w' hm; have HM := Lib.hid hm; have HU := Lib.hid hu; have HN := Lib.hid hn)
  go_ret
  exact ⟨by first | rfl | (congr 2; omega), HM.out, HU.out, HN.out⟩

end Go.Proofs.Ytnimgkijodfjkaa
