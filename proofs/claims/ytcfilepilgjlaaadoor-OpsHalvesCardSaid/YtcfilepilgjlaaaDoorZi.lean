/- The plain model of packing: what is packed is itself again; what is cut is a beginning, or none. -/
import Derived.Test.YtcfilepilgjlaaaDoorZe
import Derived.Test.YtcfilepilgjlaaaDoorZh
namespace Go.Proofs.YtcfilepilgjlaaaDoor
open Go.RowKit

/-- the three bytes at a place -/
def three (l : List UInt8) (p : Nat) : Option (UInt8 × UInt8 × UInt8) := if p + 3 ≤ l.length then some (l.getD p 0, l.getD (p + 1) 0, l.getD (p + 2) 0) else none
/-- where three bytes began last, before a place -/
def prev (l : List UInt8) : Nat → Fn3
  | 0 => fun _ _ _ => none
  | p + 1 => match three l p with
    | some (a, b, c) => put3 (prev l p) a b c p
    | none => prev l p
/-- how far two places are alike -/
def ext (l : List UInt8) (frm at' : Nat) : Nat → Nat → Nat
  | 0, n => n
  | f + 1, n => if n < 130 ∧ at' + n < l.length ∧ l.getD (frm + n) 0 = l.getD (at' + n) 0 then ext l frm at' f (n + 1) else n
/-- where the bytes at a place stand before it too, and how many -/
def rep (l : List UInt8) (at' : Nat) : Nat × Nat :=
  match three l at' with
  | none => (0, 0)
  | some (a, b, c) => match prev l at' a b c with
    | none => (0, 0)
    | some frm => (frm, ext l frm at' 127 3)
/-- tokens for the bytes from d to e -/
def litT (l : List UInt8) : Nat → List UInt8 → Nat → Nat → List UInt8
  | 0, T, _, _ => T
  | f + 1, T, d, e => if d < e then litT l f (T ++ (UInt8.ofNat (min (e - d) 128 - 1) :: (l.drop d).take (min (e - d) 128))) (d + min (e - d) 128) e else T
def copyT (d m : Nat) : List UInt8 := [UInt8.ofNat (m + 125), UInt8.ofNat d, UInt8.ofNat (d / 256)]
def pk (l : List UInt8) : Nat → Nat → Nat → List UInt8 → List UInt8 × Nat
  | 0, _, d, T => (T, d)
  | f + 1, p, d, T => if p < l.length then
      if (rep l p).2 < 4 then pk l f (p + 1) d T
      else pk l f (p + (rep l p).2) (p + (rep l p).2) (litT l p T d p ++ copyT (p - (rep l p).1 - 1) (rep l p).2)
    else (T, d)
def packT (l : List UInt8) : List UInt8 := litT l l.length (pk l l.length 0 0 []).1 (pk l l.length 0 0 []).2 l.length
def packL (l : List UInt8) : List UInt8 := if l.length ≤ 65536 ∧ (packT l).length < l.length then 1 :: packT l else 0 :: l
theorem packL_len (l : List UInt8) : (packL l).length ≤ l.length + 1 := by
  unfold packL; split
  · simp; omega
  · simp

theorem prev_some (l : List UInt8) : ∀ (p : Nat) (a b c : UInt8) (q : Nat), prev l p a b c = some q → q < p ∧ three l q = some (a, b, c)
  | 0, a, b, c, q, h => by cases h
  | p + 1, a, b, c, q, h => by
    unfold prev at h
    cases h3 : three l p with
    | none =>
      rw [h3] at h
      obtain ⟨h1, h2⟩ := prev_some l p a b c q h
      exact ⟨by omega, h2⟩
    | some t =>
      obtain ⟨x, y, z⟩ := t
      rw [h3] at h
      change put3 (prev l p) x y z p a b c = some q at h
      unfold put3 at h
      by_cases e : a = x ∧ b = y ∧ c = z
      · rw [if_pos e] at h
        cases h
        obtain ⟨rfl, rfl, rfl⟩ := e
        exact ⟨by omega, h3⟩
      · rw [if_neg e] at h
        obtain ⟨h1, h2⟩ := prev_some l p a b c q h
        exact ⟨by omega, h2⟩
theorem ext_spec (l : List UInt8) (frm p : Nat) : ∀ (f n : Nat), n + f ≤ 130 → p + n ≤ l.length → (∀ i, i < n → l.getD (frm + i) 0 = l.getD (p + i) 0) →
    n ≤ ext l frm p f n ∧ ext l frm p f n ≤ 130 ∧ p + ext l frm p f n ≤ l.length ∧ ∀ i, i < ext l frm p f n → l.getD (frm + i) 0 = l.getD (p + i) 0
  | 0, n, h1, h2, h3 => ⟨Nat.le_refl _, by unfold ext; omega, h2, h3⟩
  | f + 1, n, h1, h2, h3 => by
    unfold ext
    by_cases h : n < 130 ∧ p + n < l.length ∧ l.getD (frm + n) 0 = l.getD (p + n) 0
    · rw [if_pos h]
      obtain ⟨a, b, c⟩ := ext_spec l frm p f (n + 1) (by omega) (by omega) (fun i hi => by
        by_cases e : i = n
        · rw [e]; exact h.2.2
        · exact h3 i (by omega))
      exact ⟨by omega, b, c⟩
    · rw [if_neg h]
      exact ⟨Nat.le_refl _, by omega, h2, h3⟩
theorem three_some {l : List UInt8} {p : Nat} {a b c : UInt8} (h : three l p = some (a, b, c)) : p + 3 ≤ l.length ∧ a = l.getD p 0 ∧ b = l.getD (p + 1) 0 ∧ c = l.getD (p + 2) 0 := by
  unfold three at h
  by_cases e : p + 3 ≤ l.length
  · rw [if_pos e] at h
    simp only [Option.some.injEq, Prod.mk.injEq] at h
    exact ⟨e, h.1.symm, h.2.1.symm, h.2.2.symm⟩
  · rw [if_neg e] at h; cases h
theorem rep_spec (l : List UInt8) (p : Nat) (h : 4 ≤ (rep l p).2) : (rep l p).1 < p ∧ (rep l p).2 ≤ 130 ∧ p + (rep l p).2 ≤ l.length ∧ ∀ i, i < (rep l p).2 → l.getD ((rep l p).1 + i) 0 = l.getD (p + i) 0 := by
  unfold rep at h ⊢
  cases h3 : three l p with
  | none => rw [h3] at h; simp at h
  | some t =>
    obtain ⟨a, b, c⟩ := t
    rw [h3] at h
    simp only at h ⊢
    cases hp : prev l p a b c with
    | none => rw [hp] at h; simp at h
    | some q =>
      obtain ⟨h1, h2⟩ := prev_some l p a b c q hp
      obtain ⟨g1, g2, g3, g4⟩ := three_some h3
      obtain ⟨k1, k2, k3, k4⟩ := three_some h2
      obtain ⟨e1, e2, e3, e4⟩ := ext_spec l q p 127 3 (by omega) (by omega) (fun i hi => by
        match i, hi with
        | 0, _ => rw [Nat.add_zero, Nat.add_zero, ← k2, ← g2]
        | 1, _ => rw [← k3, ← g3]
        | 2, _ => rw [← k4, ← g4])
      exact ⟨h1, e2, e3, e4⟩
theorem rep_bound (l : List UInt8) (p : Nat) (hp : p < l.length) : p + (if (rep l p).2 < 4 then 1 else (rep l p).2) ≤ l.length := by
  split
  · omega
  · exact (rep_spec l p (by omega)).2.2.1

/-- tokens that lead from a text to another -/
def Dec (T t t' : List UInt8) : Prop := ∀ (r : List UInt8) (most : Nat), t'.length ≤ most → unp (T ++ r).length (T ++ r) t most = unp r.length r t' most
theorem Dec.nil (t : List UInt8) : Dec [] t t := fun _ _ _ => rfl
theorem Dec.trans {T T' t t' t'' : List UInt8} (h : Dec T t t') (k : Dec T' t' t'') (hl : t'.length ≤ t''.length) : Dec (T ++ T') t t'' := fun r most hm => by
  rw [List.append_assoc, h (T' ++ r) most (by omega), k r most hm]
theorem dec_lit (seg t : List UInt8) (h1 : 1 ≤ seg.length) (h2 : seg.length ≤ 128) : Dec (UInt8.ofNat (seg.length - 1) :: seg) t (t ++ seg) := fun r most hm => by
  have hc : (UInt8.ofNat (seg.length - 1)).toNat = seg.length - 1 := by
    rw [UInt8.toNat_ofNat_of_lt']; simp [UInt8.size]; omega
  rw [List.cons_append, unp_step_lit _ _ _ _ (by omega) (by rw [hc]; simp; omega) (by rw [hc]; rw [List.length_append] at hm; omega), hc, show seg.length - 1 + 1 = seg.length by omega,
    List.drop_left, List.take_left]
theorem dup_take (l : List UInt8) (q p : Nat) (hq : q < p) : ∀ m, p + m ≤ l.length → (∀ i, i < m → l.getD (q + i) 0 = l.getD (p + i) 0) → dup (l.take p) q m = l.take (p + m)
  | 0, _, _ => rfl
  | m + 1, h1, h2 => by
    have ih := dup_take l q p hq m (by omega) (fun i hi => h2 i (by omega))
    rw [dup, ih, show p + (m + 1) = (p + m) + 1 by omega, List.take_add_one, List.getElem?_eq_getElem (by omega)]
    have e := h2 m (by omega)
    have e1 : (l.take (p + m)).getD (q + m) 0 = l.getD (q + m) 0 := by
      rw [List.getD_eq_getElem?_getD, List.getElem?_take_of_lt (by omega), ← List.getD_eq_getElem?_getD]
    rw [e1, e, List.getD_eq_getElem?_getD, List.getElem?_eq_getElem (by omega)]
    rfl
theorem dec_copy (l : List UInt8) (q p m : Nat) (hq : q < p) (h3 : 3 ≤ m) (hm : m ≤ 130) (hp : p + m ≤ l.length) (hl : l.length ≤ 65536) (h : ∀ i, i < m → l.getD (q + i) 0 = l.getD (p + i) 0) :
    Dec (copyT (p - q - 1) m) (l.take p) (l.take (p + m)) := fun r most hmost => by
  have c0 : (UInt8.ofNat (m + 125)).toNat = m + 125 := by rw [UInt8.toNat_ofNat_of_lt']; simp [UInt8.size]; omega
  have c1 : (UInt8.ofNat (p - q - 1)).toNat = (p - q - 1) % 256 := UInt8.toNat_ofNat'
  have c2 : (UInt8.ofNat ((p - q - 1) / 256)).toNat = (p - q - 1) / 256 := by rw [UInt8.toNat_ofNat_of_lt']; simp [UInt8.size]; omega
  have lp : (l.take p).length = p := by rw [List.length_take]; omega
  have lpm : (l.take (p + m)).length = p + m := by rw [List.length_take]; omega
  show unp ((UInt8.ofNat (m + 125)) :: UInt8.ofNat (p - q - 1) :: UInt8.ofNat ((p - q - 1) / 256) :: r).length _ _ _ = _
  have hd : (p - q - 1) % 256 + 256 * ((p - q - 1) / 256) + 1 = p - q := by omega
  show unp ((UInt8.ofNat (m + 125)) :: UInt8.ofNat (p - q - 1) :: UInt8.ofNat ((p - q - 1) / 256) :: r).length ((UInt8.ofNat (m + 125)) :: UInt8.ofNat (p - q - 1) :: UInt8.ofNat ((p - q - 1) / 256) :: r) _ _ = _
  rw [unp_copy _ _ _ _ _ _ (by omega) (by rw [c1, c2, hd, lp]; omega) (by rw [c0, lp]; omega), c0, c1, c2, hd, lp, show p - (p - q) = q by omega, show m + 125 - 125 = m by omega, dup_take l q p hq m hp h]
theorem lit_dec (l : List UInt8) : ∀ (f : Nat) (T : List UInt8) (d e : Nat), e - d ≤ f → d ≤ e → e ≤ l.length → ∃ S, litT l f T d e = T ++ S ∧ Dec S (l.take d) (l.take e)
  | 0, T, d, e, h1, h2, h3 => by
    obtain rfl : d = e := by omega
    exact ⟨[], by simp [litT], Dec.nil _⟩
  | f + 1, T, d, e, h1, h2, h3 => by
    by_cases h : d < e
    · obtain ⟨n, hn⟩ : ∃ n, min (e - d) 128 = n := ⟨_, rfl⟩
      have hls : ((l.drop d).take n).length = n := by rw [List.length_take, List.length_drop]; omega
      obtain ⟨S, h4, h5⟩ := lit_dec l f (T ++ (UInt8.ofNat (n - 1) :: (l.drop d).take n)) (d + n) e (by omega) (by omega) h3
      refine ⟨(UInt8.ofNat (n - 1) :: (l.drop d).take n) ++ S, ?_, ?_⟩
      · rw [litT, if_pos h, hn, h4, List.append_assoc]
      · have h6 := dec_lit ((l.drop d).take n) (l.take d) (by omega) (by omega)
        rw [hls] at h6
        have e1 : l.take d ++ (l.drop d).take n = l.take (d + n) := (List.take_add).symm
        rw [e1] at h6
        exact h6.trans h5 (by rw [List.length_take, List.length_take]; omega)
    · obtain rfl : d = e := by omega
      exact ⟨[], by rw [litT, if_neg h, List.append_nil], Dec.nil _⟩
theorem pk_dec (l : List UInt8) (hl : l.length ≤ 65536) : ∀ (f p d : Nat) (T : List UInt8), d ≤ p → p ≤ l.length → ∃ S, (pk l f p d T).1 = T ++ S ∧ (pk l f p d T).2 ≤ l.length ∧ d ≤ (pk l f p d T).2 ∧ Dec S (l.take d) (l.take (pk l f p d T).2)
  | 0, p, d, T, h1, h2 => ⟨[], by simp [pk], by simp [pk]; omega, Nat.le_refl _, Dec.nil _⟩
  | f + 1, p, d, T, h1, h2 => by
    by_cases h : p < l.length
    · by_cases h4 : (rep l p).2 < 4
      · rw [pk, if_pos h, if_pos h4]
        exact pk_dec l hl f (p + 1) d T (by omega) (by omega)
      · rw [pk, if_pos h, if_neg h4]
        obtain ⟨r1, r2, r3, r4⟩ := rep_spec l p (by omega)
        generalize (rep l p).1 = q at *
        generalize (rep l p).2 = m at *
        obtain ⟨S1, g1, g2⟩ := lit_dec l p T d p (by omega) h1 h2
        have g3 := dec_copy l q p m r1 (by omega) r2 r3 hl r4
        obtain ⟨S2, k1, k2, k3, k4⟩ := pk_dec l hl f (p + m) (p + m) (litT l p T d p ++ copyT (p - q - 1) m) (Nat.le_refl _) r3
        refine ⟨S1 ++ copyT (p - q - 1) m ++ S2, ?_, k2, by omega, ?_⟩
        · rw [k1, g1]; simp [List.append_assoc]
        · refine Dec.trans (Dec.trans g2 g3 ?_) k4 ?_ <;> (rw [List.length_take, List.length_take]; omega)
    · rw [pk, if_neg h]
      exact ⟨[], by simp, by simp; omega, Nat.le_refl _, Dec.nil _⟩
theorem packT_dec (l : List UInt8) (hl : l.length ≤ 65536) : Dec (packT l) [] l := by
  obtain ⟨S, h1, h2, h3, h4⟩ := pk_dec l hl l.length 0 0 [] (Nat.le_refl _) (Nat.zero_le _)
  obtain ⟨S2, g1, g2⟩ := lit_dec l l.length (pk l l.length 0 0 []).1 (pk l l.length 0 0 []).2 l.length (by omega) h2 (Nat.le_refl _)
  unfold packT
  rw [g1, h1, List.nil_append]
  have h4' : Dec S [] (l.take (pk l l.length 0 0 []).2) := h4
  have g2' : Dec S2 (l.take (pk l l.length 0 0 []).2) l := by rw [List.take_of_length_le (Nat.le_refl l.length)] at g2; exact g2
  exact h4'.trans g2' (by rw [List.length_take]; omega)
theorem packT_unp (l : List UInt8) (hl : l.length ≤ 65536) (most : Nat) (hm : l.length ≤ most) : unp (packT l).length (packT l) [] most = (l, 0) := by
  have h := packT_dec l hl [] most hm
  rw [List.append_nil] at h
  exact h
theorem unpack_pack (l : List UInt8) (hl : l.length ≤ 65536) : unpackL (packL l) l.length = (l, 0) := by
  have hm : (min (max (l.length : Int) 0) 65536).toNat = l.length := by omega
  unfold packL
  split
  · simp only [unpackL]
    rw [if_pos trivial, hm, packT_unp l hl _ (Nat.le_refl _)]
  · simp only [unpackL]
    rw [if_neg (by decide), if_pos trivial, hm, if_neg (Nat.lt_irrefl _)]

/-- tokens that are cut short -/
theorem unp_cut (l : List UInt8) (most : Nat) : ∀ (f : Nat) (T t : List UInt8), T.length ≤ f → unp T.length T t most = (l, 0) → t.length ≤ l.length ∧ t = l.take t.length ∧ ∀ k, k < T.length →
    (unp (T.take k).length (T.take k) t most = ([], 4) ∨ ∃ j, j < l.length ∧ unp (T.take k).length (T.take k) t most = (l.take j, 0))
  | _, [], t, _, h => by
    have h : (t, (0 : Int)) = (l, 0) := h
    obtain rfl : t = l := by cases h; rfl
    exact ⟨Nat.le_refl _, (List.take_of_length_le (Nat.le_refl _)).symm, fun k hk => absurd hk (Nat.not_lt_zero _)⟩
  | 0, c :: r, t, hf, _ => absurd hf (by simp)
  | f + 1, c :: r, t, hf, h => by
    have hrf : r.length ≤ f := by simpa using hf
    by_cases hc : c.toNat < 128
    · by_cases hr : r.length < c.toNat + 1
      · rw [unp_lit_short c r t most hc hr] at h; cases h
      · by_cases hm : most < t.length + (c.toNat + 1)
        · rw [unp_lit_long c r t most hc hr hm] at h; cases h
        · rw [unp_step_lit c r t most hc hr hm] at h
          obtain ⟨i1, i2, i3⟩ := unp_cut l most f (r.drop (c.toNat + 1)) (t ++ r.take (c.toNat + 1)) (by rw [List.length_drop]; omega) h
          have hl1 : (t ++ r.take (c.toNat + 1)).length = t.length + (c.toNat + 1) := by rw [List.length_append, List.length_take]; omega
          rw [hl1] at i1
          have ht : t = l.take t.length := by
            have e := congrArg (List.take t.length) i2
            rw [List.take_left, List.take_take, hl1, Nat.min_eq_left (by omega)] at e
            exact e
          refine ⟨by omega, ht, fun k hk => ?_⟩
          cases k with
          | zero => exact .inr ⟨t.length, by omega, by show (t, (0 : Int)) = _; rw [← ht]⟩
          | succ k =>
            rw [List.take_succ_cons]
            by_cases hk2 : k < c.toNat + 1
            · exact .inl (unp_lit_short c _ t most hc (by rw [List.length_take]; omega))
            · have hk' : k < r.length := by simpa using hk
              have hlt : (r.take k).length = k := by rw [List.length_take]; omega
              rw [unp_step_lit c _ t most hc (by rw [hlt]; omega) hm]
              have e1 : (r.take k).drop (c.toNat + 1) = (r.drop (c.toNat + 1)).take (k - (c.toNat + 1)) := by rw [List.drop_take]
              have e2 : (r.take k).take (c.toNat + 1) = r.take (c.toNat + 1) := by rw [List.take_take, Nat.min_eq_left (by omega)]
              rw [e1, e2]
              exact i3 _ (by rw [List.length_drop]; omega)
    · match r, hrf, h with
      | [], _, h => rw [unp_copy_short c [] t most hc (by simp)] at h; cases h
      | [d], _, h => rw [unp_copy_short c [d] t most hc (by simp)] at h; cases h
      | d :: e :: r, hrf, h =>
        by_cases ht1 : t.length < d.toNat + 256 * e.toNat + 1
        · rw [unp_copy_early c d e r t most hc ht1] at h; cases h
        · by_cases hm : most < t.length + (c.toNat - 125)
          · rw [unp_copy_long c d e r t most hc ht1 hm] at h; cases h
          · rw [unp_copy c d e r t most hc ht1 hm] at h
            obtain ⟨i1, i2, i3⟩ := unp_cut l most f r _ (by simp at hrf; omega) h
            have hl1 := dup_length t (t.length - (d.toNat + 256 * e.toNat + 1)) (c.toNat - 125)
            have hpre : ∀ n, (dup t (t.length - (d.toNat + 256 * e.toNat + 1)) n).take t.length = t := by
              intro n
              induction n with
              | zero => exact List.take_of_length_le (Nat.le_refl _)
              | succ n ih => rw [dup, List.take_append_of_le_length (by rw [dup_length]; omega), ih]
            rw [hl1] at i1
            have ht : t = l.take t.length := by
              have e := congrArg (List.take t.length) i2
              rw [hpre, List.take_take, hl1, Nat.min_eq_left (by omega)] at e
              exact e
            refine ⟨by omega, ht, fun k hk => ?_⟩
            match k, hk with
            | 0, _ => exact .inr ⟨t.length, by omega, by show (t, (0 : Int)) = _; rw [← ht]⟩
            | 1, _ => exact .inl (unp_copy_short c [] t most hc (by simp))
            | 2, _ => exact .inl (unp_copy_short c [d] t most hc (by simp))
            | k + 3, hk =>
              show unp (c :: d :: e :: r.take k).length (c :: d :: e :: r.take k) t most = _ ∨ ∃ j, j < l.length ∧ unp (c :: d :: e :: r.take k).length (c :: d :: e :: r.take k) t most = _
              rw [unp_copy c d e _ t most hc ht1 hm]
              exact i3 k (by simp at hk; omega)
end Go.Proofs.YtcfilepilgjlaaaDoor
