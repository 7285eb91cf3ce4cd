/- node.Decode of any text at any place. -/
import Derived.Test.YthlheamnfjjamaaDoorOj
namespace Go.Proofs.YthlheamnfjjamaaDoor
open Go.RowKit Cm
attribute [local irreducible] beZ valN Cm.shs Cm.nxt Cm.reg Cm.ext

/-- what a text that stands here is decoded to: the node, how long it is, what is wrong -/
def decR (r : List UInt8) : Value × Nat × Int :=
  if r = [] ∨ r.getD 0 0 = 0 then (zeroV, 0, 3) else if r.getD 0 0 ≠ 78 then (zeroV, 0, 4) else
  if r.length < 13 then (zeroV, 0, 60) else if r.length < 17 + klenL r + vlenL r then (zeroV, 0, 60) else
  if sealed (r.take (13 + klenL r + vlenL r)) ≠ r.take (17 + klenL r + vlenL r) then (zeroV, 0, 61) else
  if parseOk (r.take (13 + klenL r + vlenL r)) then (parseV (r.take (13 + klenL r + vlenL r)), 17 + klenL r + vlenL r, 0) else (zeroV, 0, 4)
def decP (l : List UInt8) (a : Int) : Value × Int × Int :=
  if a < 0 ∨ (l.length : Int) < a then (zeroV, 0, 1) else ((decR (l.drop a.toNat)).1, if (decR (l.drop a.toNat)).2.2 = 0 then a + ((decR (l.drop a.toNat)).2.1 : Int) else 0, (decR (l.drop a.toNat)).2.2)
theorem klen_take (r : List UInt8) (n : Nat) (h : 13 ≤ n) : klenL (r.take n) = klenL r ∧ vlenL (r.take n) = vlenL r := by
  unfold klenL vlenL
  constructor
  · rw [List.drop_take, List.take_take, show min 1 (n - 10) = 1 by omega]
  · rw [List.drop_take, List.take_take, show min 2 (n - 11) = 2 by omega]
theorem parseV_ok {t : List UInt8} (h : parseOk t = true) : parseV t = nodeV (seqL t) (goneL t) (lastL t) (keyL t) (valL t) := by unfold parseV; rw [if_pos h]
theorem parseV_no {t : List UInt8} (h : parseOk t = false) : parseV t = zeroV := by unfold parseV; rw [h]; rfl
theorem decode_any (l : List UInt8) (a : Int) (w : World) (hl : l.length ≤ 281474976710656) (hT : Tab w) :
    Calls Tryd.prog 15 #[.string ⟨l.toArray⟩, .int .i64 a] w fun e w' => e = .returned (.tuple #[(decP l a).1, .int .i64 (decP l a).2.1, .int .i64 (decP l a).2.2]) ∧ Upd noBlock w w' := by
  have hz1 : (⟨l.toArray⟩ : ByteArray).size = l.length := rfl
  have hn2 : l.length ≤ 9223372036854775807 := by omega
  unfold decP
  by_cases h0 : a < 0
  · rw [if_pos (.inl h0)]
    exact dec_neg w _ _ hz1 hl hn2 a h0
  by_cases h1 : (l.length : Int) < a
  · rw [if_pos (.inr h1)]
    exact dec_far w _ _ hz1 hl hn2 a h0 h1
  rw [if_neg (fun h => h.elim h0 h1)]
  obtain ⟨p, rfl⟩ : ∃ p : Nat, a = (p : Int) := ⟨a.toNat, by omega⟩
  rw [Int.toNat_natCast]
  have hp : p ≤ l.length := by omega
  obtain ⟨r, hr⟩ : ∃ r, l.drop p = r := ⟨_, rfl⟩
  have hx : (⟨l.toArray⟩ : ByteArray).extract p l.length = ⟨r.toArray⟩ := by
    rw [ext_str, hr, List.take_of_length_le (by rw [← hr, List.length_drop]; omega)]
  have hrl : r.length ≤ l.length := by rw [← hr, List.length_drop]; omega
  have hz2 : (⟨r.toArray⟩ : ByteArray).size = r.length := rfl
  have hrl2 : r.length ≤ 9223372036854775807 := by omega
  rw [hr]
  clear hr
  unfold decR
  by_cases he : r = []
  · rw [if_pos (.inl he)]
    refine dec_end w _ _ hz1 hl hn2 p _ _ hp h1 hx hz2 hrl hrl2 ?_
    rw [emp_str, he]; rfl
  have hemp : (⟨r.toArray⟩ : ByteArray).toList.isEmpty = false := by rw [emp_str]; simpa using he
  have hr0 : 0 < (⟨r.toArray⟩ : ByteArray).size := List.length_pos_iff.2 he
  obtain ⟨c, rt, hrc⟩ : ∃ c rt, r = c :: rt := by
    cases r with
    | nil => exact absurd rfl he
    | cons c rt => exact ⟨c, rt, rfl⟩
  have hc0 : r.getD 0 0 = c := by rw [hrc]; rfl
  have hm : ((⟨r.toArray⟩ : ByteArray)[0]'hr0).toNat = c.toNat := by subst hrc; rfl
  by_cases hc : c = 0
  · rw [if_pos (.inr (by rw [hc0, hc]))]
    exact dec_nought w _ _ hz1 hl hn2 p _ _ hp h1 hx hz2 hrl hrl2 hemp hr0 c.toNat hm (by rw [hc]; rfl)
  rw [if_neg (fun h => h.elim he (fun h => hc (by rw [← hc0]; exact h)))]
  have hcn : ((c.toNat : Int) == 0) = false := by
    apply beq_eq_false_iff_ne.2
    intro h
    exact hc (UInt8.toNat_inj.1 (by simpa using h))
  have hHP := fun W => Tryd.strings_HasPrefix ⟨r.toArray⟩ ⟨#[78]⟩ W
  have hpf : Lib.hasPrefix (⟨r.toArray⟩ : ByteArray).data.toList (⟨#[78]⟩ : ByteArray).data.toList = decide (c = 78) := by
    show Lib.hasPrefix r [78] = _
    rw [hrc]
    by_cases h : c = 78
    · subst h; rw [decide_eq_true rfl]; rfl
    · rw [decide_eq_false h]
      show ((78 : UInt8) == c && List.isPrefixOf [] rt) = false
      rw [beq_eq_false_iff_ne.2 (fun e => h e.symm)]; rfl
  rw [hpf] at hHP
  by_cases h78 : ¬ c = 78
  · rw [if_pos (by rw [hc0]; exact h78)]
    rw [decide_eq_false h78] at hHP
    exact dec_form w _ _ hz1 hl hn2 p _ _ hp h1 hx hz2 hrl hrl2 hemp hr0 c.toNat hm hcn hHP
  have h78 : c = 78 := Decidable.not_not.1 h78
  rw [if_neg (by rw [hc0]; exact fun h => h h78)]
  rw [decide_eq_true h78] at hHP
  clear hrc hpf hc0
  have hS := fun W => sizeOf_any r W (by omega)
  by_cases h13 : r.length < 13
  · rw [if_pos h13]
    rw [if_neg (by omega), decide_eq_false (by omega)] at hS
    exact dec_short w _ _ hz1 hl hn2 p _ _ hp h1 hx hz2 hrl hrl2 hemp hr0 c.toNat hm hcn hHP 0 hS
  rw [if_neg h13]
  rw [if_pos (by omega), decide_eq_true (by omega)] at hS
  by_cases hlt : r.length < 17 + klenL r + vlenL r
  · rw [if_pos hlt]
    exact dec_cut w _ _ hz1 hl hn2 p _ _ hp h1 hx hz2 hrl hrl2 hemp hr0 c.toNat hm hcn hHP _ hS (by omega)
  rw [if_neg hlt]
  have hxz : (⟨r.toArray⟩ : ByteArray).extract 0 (17 + klenL r + vlenL r) = ⟨(r.take (17 + klenL r + vlenL r)).toArray⟩ := by
    rw [ext_str, List.drop_zero, Nat.sub_zero]
  have hTT : Hid (∀ W, Upd noBlock (w.alloc (.cells #[.int .i64 0, .bool false, .bool false, .string ⟨#[]⟩, .string ⟨#[]⟩] 26)) W → Tab W) := fun W h => hT.upd (((Upd.refl _ _).alloc _).trans h)
  have hk1 := klen_lt r
  have hv1 := vlen_lt r
  by_cases hsl : ¬ sealed (r.take (13 + klenL r + vlenL r)) = r.take (17 + klenL r + vlenL r)
  · rw [if_pos hsl]
    have hO := fun W hW => open_no ⟨(r.take (17 + klenL r + vlenL r)).toArray⟩ W (fun t ht => hsl (by
      have ht : r.take (17 + klenL r + vlenL r) = sealed t := ht
      have hlen : t.length = 13 + klenL r + vlenL r := by
        have h9 := congrArg List.length ht
        rw [sealed_length, List.length_take] at h9
        omega
      have htt : r.take (13 + klenL r + vlenL r) = t := by
        have h9 := congrArg (List.take (13 + klenL r + vlenL r)) ht
        rw [List.take_take, show min (13 + klenL r + vlenL r) (17 + klenL r + vlenL r) = 13 + klenL r + vlenL r by omega] at h9
        rw [h9, ← hlen]
        unfold sealed
        exact List.take_left
      rw [htt, ht])) (by show (r.take (17 + klenL r + vlenL r)).length ≤ _; rw [List.length_take]; omega) hW
    exact dec_sum w _ _ hz1 hl hn2 p _ _ hp h1 hx hz2 hrl hrl2 hemp hr0 c.toNat hm hcn hHP _ hS (by omega) (by omega) _ hxz hTT _ hO
  have hsl := Decidable.not_not.1 hsl
  rw [if_neg (fun h => h hsl)]
  obtain ⟨t, ht⟩ : ∃ t, r.take (13 + klenL r + vlenL r) = t := ⟨_, rfl⟩
  have htl : t.length = 13 + klenL r + vlenL r := by rw [← ht, List.length_take]; omega
  have hkt : klenL t = klenL r := by rw [← ht]; exact (klen_take r _ (by omega)).1
  rw [ht] at hsl ⊢
  have hO := fun W hW => open_yes t ⟨(r.take (17 + klenL r + vlenL r)).toArray⟩ W hsl.symm (by show (r.take (17 + klenL r + vlenL r)).length ≤ _; rw [List.length_take]; omega) hW
  have hP := fun W => parse_any t W (by omega) (by omega)
  cases hok : parseOk t with
  | true =>
    rw [hok, parseV_ok hok] at hP
    rw [if_pos rfl, parseV_ok hok]
    exact dec_ok w _ _ hz1 hl hn2 p _ _ hp h1 hx hz2 hrl hrl2 hemp hr0 c.toNat hm hcn hHP _ hS (by omega) (by omega) _ hxz hTT _ hO (seqL t) (goneL t) (lastL t) ⟨(keyL t).toArray⟩ ⟨(valL t).toArray⟩ hP
  | false =>
    rw [hok, parseV_no hok] at hP
    exact dec_bad w _ _ hz1 hl hn2 p _ _ hp h1 hx hz2 hrl hrl2 hemp hr0 c.toNat hm hcn hHP _ hS (by omega) (by omega) _ hxz hTT _ hO 0 false false ⟨#[]⟩ ⟨#[]⟩ hP
end Go.Proofs.YthlheamnfjjamaaDoor
