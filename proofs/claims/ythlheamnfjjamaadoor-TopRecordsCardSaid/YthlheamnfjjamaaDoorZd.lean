/- unpack, walked. -/
import Derived.Test.YthlheamnfjjamaaDoorZc
import Derived.BigQuiet
namespace Go.Proofs.YthlheamnfjjamaaDoor
open Go.RowKit

theorem unp_step_lit (c : UInt8) (r t : List UInt8) (most : Nat) (hc : c.toNat < 128) (hr : ¬ r.length < c.toNat + 1) (hm : ¬ most < t.length + (c.toNat + 1)) :
    unp (c :: r).length (c :: r) t most = unp (r.drop (c.toNat + 1)).length (r.drop (c.toNat + 1)) (t ++ r.take (c.toNat + 1)) most := by
  rw [← unp_fuel r.length (r.drop (c.toNat + 1)) _ most (by rw [List.length_drop]; omega)]
  show unp (r.length + 1) (c :: r) t most = _
  rw [unp, if_pos hc, if_neg hr, if_neg hm]
theorem unp_lit_short (c : UInt8) (r t : List UInt8) (most : Nat) (hc : c.toNat < 128) (hr : r.length < c.toNat + 1) : unp (c :: r).length (c :: r) t most = ([], 4) := by
  show unp (r.length + 1) (c :: r) t most = _
  rw [unp, if_pos hc, if_pos hr]
theorem unp_lit_long (c : UInt8) (r t : List UInt8) (most : Nat) (hc : c.toNat < 128) (hr : ¬ r.length < c.toNat + 1) (hm : most < t.length + (c.toNat + 1)) : unp (c :: r).length (c :: r) t most = ([], 2) := by
  show unp (r.length + 1) (c :: r) t most = _
  rw [unp, if_pos hc, if_neg hr, if_pos hm]
theorem unp_copy_short (c : UInt8) (r t : List UInt8) (most : Nat) (hc : ¬ c.toNat < 128) (hr : r.length < 2) : unp (c :: r).length (c :: r) t most = ([], 4) := by
  show unp (r.length + 1) (c :: r) t most = _
  rw [unp, if_neg hc, if_pos hr]
theorem unp_copy_early (c d e : UInt8) (r t : List UInt8) (most : Nat) (hc : ¬ c.toNat < 128) (ht : t.length < d.toNat + 256 * e.toNat + 1) : unp (c :: d :: e :: r).length (c :: d :: e :: r) t most = ([], 4) := by
  show unp ((d :: e :: r).length + 1) (c :: d :: e :: r) t most = _
  rw [unp, if_neg hc, if_neg (by simp)]
  exact if_pos ht
theorem unp_copy_long (c d e : UInt8) (r t : List UInt8) (most : Nat) (hc : ¬ c.toNat < 128) (ht : ¬ t.length < d.toNat + 256 * e.toNat + 1) (hm : most < t.length + (c.toNat - 125)) : unp (c :: d :: e :: r).length (c :: d :: e :: r) t most = ([], 2) := by
  show unp ((d :: e :: r).length + 1) (c :: d :: e :: r) t most = _
  rw [unp, if_neg hc, if_neg (by simp)]
  exact (if_neg ht).trans (if_pos hm)
theorem unp_copy (c d e : UInt8) (r t : List UInt8) (most : Nat) (hc : ¬ c.toNat < 128) (ht : ¬ t.length < d.toNat + 256 * e.toNat + 1) (hm : ¬ most < t.length + (c.toNat - 125)) :
    unp (c :: d :: e :: r).length (c :: d :: e :: r) t most = unp r.length r (dup t (t.length - (d.toNat + 256 * e.toNat + 1)) (c.toNat - 125)) most := by
  rw [← unp_fuel (d :: e :: r).length r _ most (by simp; omega)]
  show unp ((d :: e :: r).length + 1) (c :: d :: e :: r) t most = _
  rw [unp, if_neg hc, if_neg (by simp)]
  exact (if_neg ht).trans (if_neg hm)
theorem jz_mk {most : Nat} {w : World} {R : List UInt8 × Int} {l0 t0 : List UInt8} {v0 : Value} {wr : World} {q : ByteArray} (x2 x3 x7 x8 x9 x10 x11 x12 x13 x14 x15 x16 x17 x18 x19 x20 x21 x22 x23 x24 x25 x26 x27 x28 x29 x30 x31 x32 x33 x34 x35 x36 x37 x38 x39 x40 x41 x42 x43 x44 x45 x46 x47 x48 x49 x50 x51 x52 x53 x54 x55 x56 x57 x58 : Value) (hq : q = ⟨l0.toArray⟩) (HJ : Hid (Jz most w R l0 t0 v0 wr)) :
    ∃ (l t : List UInt8) (v : Value) (u : Nat → Value), ({ tmps := #[.string q, .int .i64 (most : Int), x2, x3, .string ⟨#[]⟩, .int .i64 0, v0, x7, x8, x9, x10, x11, x12, x13, x14, x15, x16, x17, x18, x19, x20, x21, x22, x23, x24, x25, x26, x27, x28, x29, x30, x31, x32, x33, x34, x35, x36, x37, x38, x39, x40, x41, x42, x43, x44, x45, x46, x47, x48, x49, x50, x51, x52, x53, x54, x55, x56, x57, x58], defers := [] } : Act) = { tmps := #[.string ⟨l.toArray⟩, .int .i64 (most : Int), u 2, u 3, .string ⟨#[]⟩, .int .i64 0, v, u 7, u 8, u 9, u 10, u 11, u 12, u 13, u 14, u 15, u 16, u 17, u 18, u 19, u 20, u 21, u 22, u 23, u 24, u 25, u 26, u 27, u 28, u 29, u 30, u 31, u 32, u 33, u 34, u 35, u 36, u 37, u 38, u 39, u 40, u 41, u 42, u 43, u 44, u 45, u 46, u 47, u 48, u 49, u 50, u 51, u 52, u 53, u 54, u 55, u 56, u 57, u 58], defers := [] } ∧ Hid (Jz most w R l t v wr) :=
  ⟨l0, t0, v0, fun i => match i with | 2 => x2 | 3 => x3 | 7 => x7 | 8 => x8 | 9 => x9 | 10 => x10 | 11 => x11 | 12 => x12 | 13 => x13 | 14 => x14 | 15 => x15 | 16 => x16 | 17 => x17 | 18 => x18 | 19 => x19 | 20 => x20 | 21 => x21 | 22 => x22 | 23 => x23 | 24 => x24 | 25 => x25 | 26 => x26 | 27 => x27 | 28 => x28 | 29 => x29 | 30 => x30 | 31 => x31 | 32 => x32 | 33 => x33 | 34 => x34 | 35 => x35 | 36 => x36 | 37 => x37 | 38 => x38 | 39 => x39 | 40 => x40 | 41 => x41 | 42 => x42 | 43 => x43 | 44 => x44 | 45 => x45 | 46 => x46 | 47 => x47 | 48 => x48 | 49 => x49 | 50 => x50 | 51 => x51 | 52 => x52 | 53 => x53 | 54 => x54 | 55 => x55 | 56 => x56 | 57 => x57 | 58 => x58 | _ => undef, by subst hq; rfl, HJ⟩

theorem bc_cells (l : List UInt8) : byteCells ⟨l.toArray⟩ = bc l := rfl

set_option maxRecDepth 20000 in
set_option maxHeartbeats 3200000 in
theorem unpack_any (s : List UInt8) (most : Nat) (w : World) (hs : s.length ≤ maxLen) (hm : most ≤ 65536) :
    Calls Tryd.prog 60 #[.string ⟨s.toArray⟩, .int .i64 (most : Int)] w fun e w' => e = .returned (.tuple #[.string ⟨(unp s.length s [] most).1.toArray⟩, .int .i64 (unp s.length s [] most).2]) ∧ Upd noBlock w w' := by
  obtain ⟨i0, hi0, hz0, hz1, hz2⟩ := info_parts byteInfoB
  obtain ⟨R, hR⟩ : ∃ R, unp s.length s [] most = R := ⟨_, rfl⟩
  rw [hR]
  have H0 : Hid (Jz most w R s [] (.slice none 0 0) w) := ⟨hR, OwnB.nil _ _, Nat.zero_le _, hs, Upd.refl _ _⟩
  clear hR hs
  go_enter Tryd.func60, Tryd.ntmps60
  go_wp2
  refine scope_jumps_two 0 (fun a' wr => ∃ (l t : List UInt8) (v : Value) (u : Nat → Value), a' = { tmps := #[.string ⟨l.toArray⟩, .int .i64 (most : Int), u 2, u 3, .string ⟨#[]⟩, .int .i64 0, v, u 7, u 8, u 9, u 10, u 11, u 12, u 13, u 14, u 15, u 16, u 17, u 18, u 19, u 20, u 21, u 22, u 23, u 24, u 25, u 26, u 27, u 28, u 29, u 30, u 31, u 32, u 33, u 34, u 35, u 36, u 37, u 38, u 39, u 40, u 41, u 42, u 43, u 44, u 45, u 46, u 47, u 48, u 49, u 50, u 51, u 52, u 53, u 54, u 55, u 56, u 57, u 58], defers := [] } ∧ Hid (Jz most w R l t v wr)) (fun a' _ => match a'.tmps.getD 0 undef with | .string q => q.size | _ => 0) rfl ?_ ?_
  · rintro a' wr ⟨l, t, v, u, rfl, HJ⟩
    obtain ⟨hq, hO, ht, hqm, hU⟩ := HJ.out
    have HH : Hid ((∀ (a : World), wr.heap.size ≤ a.heap.size → True)) := fun _ _ => trivial
    clear HH
    have HBz : Hid (w.heap.size ≤ wr.heap.size) := hU.size
    have HRm : ∀ (l' t' : List UInt8) (v' : Value) (w' : World), unp l'.length l' t' most = R → OwnB w' w.heap.size v' t' → t'.length ≤ most → l'.length ≤ maxLen → Upd noBlock w w' → Hid (Jz most w R l' t' v' w') := fun _ _ _ _ a b c d e => ⟨a, b, c, d, e⟩
    have HRm := Lib.hid HRm
    have hes := emp_strZ l
    cases l with
    | nil =>
      have hcv := hO.text
      have hr1 : R.1 = t := by rw [← hq]; rfl
      have hr2 : R.2 = 0 := by rw [← hq]; rfl
      have hes : (ByteArray.mk ([] : List UInt8).toArray).toList.isEmpty = true := hes
      have HU := Lib.hid hU
      clear HJ hq hO ht hqm H0 hU HRm HBz
      go_wp2
      simp only [Exit.jump]
      go_ret2
      rw [hr1, hr2]
      exact ⟨rfl, HU.out⟩
    | cons c r =>
      obtain ⟨cn, hcn⟩ : ∃ cn, c.toNat = cn := ⟨_, rfl⟩
      have hc256 : cn < 256 := by rw [← hcn]; exact c.toNat_lt
      have hlen : (c :: r).length = r.length + 1 := rfl
      have hes : (ByteArray.mk (c :: r).toArray).toList.isEmpty = false := hes
      have hix := at_str (c :: r) 0 c rfl
      have hsz := sz_str (c :: r)
      have hsz' : ∀ q : ByteArray, ⟨(c :: r).toArray⟩ = q → q.size = (c :: r).length := fun q h => by subst h; rfl
      rw [hlen] at hsz
      rw [hcn] at hix
      have HTB := Lib.hid (fun (W : World) => tokenBytes_any cn W hc256)
      have HO := Lib.hid hO
      have HU := Lib.hid hU
      have HT := Lib.hid ht
      have HQ := Lib.hid hq
      have hrl : r.length + 1 ≤ maxLen := by rw [← hlen]; exact hqm
      have HL := Lib.hid hrl
      have hrl2 : r.length + 1 ≤ 9223372036854775807 := by unfold maxLen at hrl; omega
      have ht2 : t.length ≤ 65536 := by omega
      clear HJ hq hO ht hqm H0 hU hrl
      by_cases hc : cn < 128
      · by_cases hr : r.length < cn + 1
        · have hR4 : R = ([], 4) := by rw [← HQ.out]; exact unp_lit_short c r t most (by omega) (by omega)
          subst hR4
          have hif : (if cn < 128 then cn + 2 else 3 : Nat) = cn + 2 := if_pos hc
          rw [hif] at HTB
          clear HQ HRm HO HT HL
          obtain ⟨q, hq⟩ : ∃ q : ByteArray, ⟨(c :: r).toArray⟩ = q := ⟨_, rfl⟩
          rw [hq] at hes hix hsz ⊢
          clear hq
          go_wp2_with (go_at_call 71; refine (HTB.out _).mono ?_; rintro e w1 ⟨rfl, rfl⟩)
          simp only [Exit.jump]
          go_ret2
          exact ⟨rfl, HU.out⟩
        · have hif : (if cn < 128 then cn + 2 else 3 : Nat) = cn + 2 := if_pos hc
          rw [hif] at HTB
          have htl : (r.take (cn + 1)).length = cn + 1 := by rw [List.length_take]; omega
          obtain ⟨q, hq⟩ : ∃ q : ByteArray, ⟨(c :: r).toArray⟩ = q := ⟨_, rfl⟩
          obtain ⟨tk, htk⟩ : ∃ tk : ByteArray, q.extract 0 (cn + 2) = tk := ⟨_, rfl⟩
          obtain ⟨tr, htr⟩ : ∃ tr : ByteArray, q.extract (cn + 2) (r.length + 1) = tr := ⟨_, rfl⟩
          obtain ⟨ta, hta⟩ : ∃ ta : ByteArray, tk.extract 1 (cn + 2) = ta := ⟨_, rfl⟩
          have ek : tk = ⟨((c :: r).take (cn + 2)).toArray⟩ := by
            rw [← htk, ← hq]; apply ByteArray.ext; apply Array.ext'; simp
          have ea : ta = ⟨(r.take (cn + 1)).toArray⟩ := by
            rw [← hta, ek]; apply ByteArray.ext; apply Array.ext'; simp [List.take_take]
          have er : Hid (tr = ⟨(r.drop (cn + 1)).toArray⟩) := by
            show tr = _
            rw [← htr, ← hq]; apply ByteArray.ext; apply Array.ext'; simp
            exact List.take_of_length_le (by simp)
          have hszk : tk.size = cn + 2 := by rw [ek, sz_str, List.length_take]; simp; omega
          have hixk : ∀ (hi : 0 < tk.size), (tk[0]'hi).toNat = cn := by
            intro hi; subst ek; rw [at_str _ 0 c rfl hi, hcn]
          have HSrc : Hid (∀ W : World, Src Tryd.prog 1 9 (.string ta) (cn + 1) (bc (r.take (cn + 1))) W) := fun W => by
            have := Src.ofString W (P := Tryd.prog) (tx := 9) Tryd.underlying9 ta
            rw [ea, bc_cells, sz_str, htl] at this
            rw [ea]; exact this
          have htsz : Hid (tr.size < q.size) := by
            show _ < _
            rw [er.out, hsz' q hq, sz_str, List.length_drop]; simp; omega
          rw [hq] at hes hix hsz ⊢
          have HM : Hid (t.length + (cn + 1) ≤ maxLen ∧ (t.length + (cn + 1)) * 1 ≤ 140737488355328) := by show _ ∧ _; unfold maxLen; omega
          have HE : Hid (∀ v' W', W'.ownsRow w.heap.size 5 1 v' (t.length + (cn + 1)) (bc t ++ bc (r.take (cn + 1))) → OwnB W' w.heap.size v' (t ++ r.take (cn + 1))) := fun v' W' h => OwnB.join rfl htl.symm h
          have HUA : Hid (∀ (row : Option Nat) (W' : World), wr.grownBy W' row → row = v.ownBlock → Upd noBlock w W') := fun row W' hgr hrow => upd_of_grown HU.out hgr (fun k' hk' => .inr (by
            rcases HO.out.2 with ⟨h1, _⟩ | ⟨g, cap, cur, h1, hB, _⟩
            · rw [hrow, h1] at hk'; cases hk'
            · rw [hrow, h1] at hk'; cases hk'; exact hB))
          have hl2 : (t ++ r.take (cn + 1)).length = t.length + (cn + 1) := by rw [List.length_append, htl]
          have HL2 := Lib.hid hl2
          clear hq ek ea htl hl2
          by_cases hm2 : most < t.length + (cn + 1)
          · have hR4 : R = ([], 2) := by rw [← HQ.out]; exact unp_lit_long c r t most (by omega) (by omega) (by omega)
            subst hR4
            clear HQ HRm HT HL
            go_wp2_with (first | (go_at_call 71; refine (HTB.out _).mono ?_; rintro e w1 ⟨rfl, rfl⟩) | (at_builtin; refine wpList_append_src _ rfl _ _ 59 9 rfl w.heap.size 5 i0 (.int .u8 0) 1 Tryd.underlying59 hi0 hz0 hz1 hz2 rfl _ _ _ rfl HO.out _ _ _ rfl (HSrc.out _) (by omega) HM.out.1 HM.out.2 HBz.out ?_; intro v1 w1 hO hgr _; have hv1 := (HE.out _ _ hO).slice; rw [HL2.out] at hv1; obtain ⟨a1, c1, hv1⟩ := hv1; subst hv1; have HO1 := Lib.hid (HE.out _ _ hO); have HU1 := Lib.hid (HUA.out _ _ hgr rfl); clear hO hgr) | go_in)
            simp only [Exit.jump]
            go_ret2
            exact ⟨rfl, HU1.out⟩
          · have HR5 : Hid (unp (r.drop (cn + 1)).length (r.drop (cn + 1)) (t ++ r.take (cn + 1)) most = R) := by
              show _ = _
              have e9 := unp_step_lit c r t most (by omega) (by omega) (by omega); rw [hcn] at e9
              rw [← HQ.out]; exact e9.symm
            have hdl : (r.drop (cn + 1)).length ≤ maxLen := by rw [List.length_drop]; have := HL.out; omega
            have HDL := Lib.hid hdl
            clear hdl
            clear HQ HT HL
            go_wp2_with (first | (go_at_call 71; refine (HTB.out _).mono ?_; rintro e w1 ⟨rfl, rfl⟩) | (at_builtin; refine wpList_append_src _ rfl _ _ 59 9 rfl w.heap.size 5 i0 (.int .u8 0) 1 Tryd.underlying59 hi0 hz0 hz1 hz2 rfl _ _ _ rfl HO.out _ _ _ rfl (HSrc.out _) (by omega) HM.out.1 HM.out.2 HBz.out ?_; intro v1 w1 hO hgr _; have hv1 := (HE.out _ _ hO).slice; rw [HL2.out] at hv1; obtain ⟨a1, c1, hv1⟩ := hv1; subst hv1; have HO1 := Lib.hid (HE.out _ _ hO); have HU1 := Lib.hid (HUA.out _ _ hgr rfl); clear hO hgr) | go_in)
            go_step3
            exact ⟨rfl, jz_mk _ _ _ _ _ _ _ _ _ _ _ _ _ _ _ _ _ _ _ _ _ _ _ _ _ _ _ _ _ _ _ _ _ _ _ _ _ _ _ _ _ _ _ _ _ _ _ _ _ _ _ _ _ _ er.out (HRm.out _ _ _ _ HR5.out HO1.out (by rw [HL2.out]; omega) HDL.out HU1.out), htsz.out⟩
      · have hif : (if cn < 128 then cn + 2 else 3 : Nat) = 3 := if_neg hc
        rw [hif] at HTB
        have hc125 : 125 ≤ cn := by omega
        rcases r with _ | ⟨d, _ | ⟨e, r⟩⟩
        · have hR4 : R = ([], 4) := by rw [← HQ.out]; exact unp_copy_short c [] t most (by omega) (by simp)
          subst hR4
          clear HQ HRm HO HT HL
          obtain ⟨q, hq⟩ : ∃ q : ByteArray, ⟨[c].toArray⟩ = q := ⟨_, rfl⟩
          have hsz : q.size = 1 := by rw [← hq]; rfl
          rw [hq] at hes hix ⊢
          clear hq
          go_wp2_with (go_at_call 71; refine (HTB.out _).mono ?_; rintro e w1 ⟨rfl, rfl⟩)
          simp only [Exit.jump]
          go_ret2
          exact ⟨rfl, HU.out⟩
        · have hR4 : R = ([], 4) := by rw [← HQ.out]; exact unp_copy_short c [d] t most (by omega) (by simp)
          subst hR4
          clear HQ HRm HO HT HL
          obtain ⟨q, hq⟩ : ∃ q : ByteArray, ⟨[c, d].toArray⟩ = q := ⟨_, rfl⟩
          have hsz : q.size = 2 := by rw [← hq]; rfl
          rw [hq] at hes hix ⊢
          clear hq
          go_wp2_with (go_at_call 71; refine (HTB.out _).mono ?_; rintro e w1 ⟨rfl, rfl⟩)
          simp only [Exit.jump]
          go_ret2
          exact ⟨rfl, HU.out⟩
        · obtain ⟨dn, hdn⟩ : ∃ dn, d.toNat = dn := ⟨_, rfl⟩
          obtain ⟨en, hen⟩ : ∃ en, e.toNat = en := ⟨_, rfl⟩
          have hd256 : dn < 256 := by rw [← hdn]; exact d.toNat_lt
          have he256 : en < 256 := by rw [← hen]; exact e.toNat_lt
          obtain ⟨q, hq⟩ : ∃ q : ByteArray, ⟨(c :: d :: e :: r).toArray⟩ = q := ⟨_, rfl⟩
          obtain ⟨tk, htk⟩ : ∃ tk : ByteArray, q.extract 0 3 = tk := ⟨_, rfl⟩
          have hsz : q.size = r.length + 3 := by rw [← hq]; rfl
          obtain ⟨tr, htr⟩ : ∃ tr : ByteArray, q.extract 3 (r.length + 3) = tr := ⟨_, rfl⟩
          have ek : tk = ⟨[c, d, e].toArray⟩ := by
            rw [← htk, ← hq]; apply ByteArray.ext; apply Array.ext'; simp
          have er : Hid (tr = ⟨r.toArray⟩) := by
            show tr = _
            rw [← htr, ← hq]; apply ByteArray.ext; apply Array.ext'; simp
          have hszk : tk.size = 3 := by rw [ek]; rfl
          have hixk : ∀ (hi : 0 < tk.size), (tk[0]'hi).toNat = cn := by intro hi; subst ek; exact hcn
          have hixk1 : ∀ (hi : 1 < tk.size), (tk[1]'hi).toNat = dn := by intro hi; subst ek; exact hdn
          have hixk2 : ∀ (hi : 2 < tk.size), (tk[2]'hi).toNat = en := by intro hi; subst ek; exact hen
          have htsz : Hid (tr.size < q.size) := by
            show _ < _
            rw [er.out, hsz, sz_str]; omega
          rw [hq] at hes hix ⊢
          obtain ⟨a0, c0, hv0⟩ := HO.out.slice
          clear hq ek hlen
          by_cases hD : t.length < dn + 256 * en + 1
          · have hR4 : R = ([], 4) := by rw [← HQ.out]; exact unp_copy_early c d e r t most (by omega) (by omega)
            subst hR4
            subst hv0
            have hlt : decide ((t.length : Int) - 1 - dn - en * 256 < 0) = true := by simp; omega
            clear HQ HRm HO HT HL
            go_wp2_with (go_at_call 71; refine (HTB.out _).mono ?_; rintro e w1 ⟨rfl, rfl⟩)
            go_quiet (fail)
            go_wp2
            simp only [Exit.jump]
            go_ret2
            exact ⟨rfl, HU.out.drewN _⟩
          · obtain ⟨fr, hfr⟩ : ∃ fr, t.length - (dn + 256 * en + 1) = fr := ⟨_, rfl⟩
            obtain ⟨nn, hnn⟩ : ∃ nn, cn - 125 = nn := ⟨_, rfl⟩
            have hfi : (t.length : Int) - 1 - dn - en * 256 = (fr : Int) := by omega
            have hni : (cn : Int) - 125 = (nn : Int) := by omega
            have hlt : decide ((t.length : Int) - 1 - dn - en * 256 < 0) = false := by simp; omega
            have hdl := dup_length t fr nn
            have HREP : Hid (∀ k, Calls Tryd.prog 72 #[v, .int .i64 (fr : Int), .int .i64 (nn : Int)] (wr.drewN k) fun e w' => ∃ v', e = .returned v' ∧ OwnB w' w.heap.size v' (dup t fr nn) ∧ Upd noBlock w w') := fun k => by
              have h1 : OwnB (wr.drewN k) w.heap.size v t := HO.out.grow ((Upd.refl _ _).drewN k)
              refine (repeat_any w.heap.size v t fr nn (wr.drewN k) h1 HBz.out (by omega) (by omega) ht2).mono ?_
              rintro e w1 ⟨v', h2, h3, h4⟩
              exact ⟨v', h2, h3, h4 w (Nat.le_refl _) (HU.out.drewN k)⟩
            have HDUP : Hid (∀ v' w', OwnB w' w.heap.size v' (dup t fr nn) → ∃ a c, v' = .slice a (t.length + nn) c) := fun v' w' h => by
              have := h.slice
              rwa [hdl] at this
            subst hv0
            by_cases hm2 : most < t.length + nn
            · have hR4 : R = ([], 2) := by rw [← HQ.out]; exact unp_copy_long c d e r t most (by omega) (by omega) (by omega)
              subst hR4
              clear HQ HRm HO HT HL
              go_wp2_with (go_at_call 71; refine (HTB.out _).mono ?_; rintro e w1 ⟨rfl, rfl⟩)
              go_quiet (fail)

              go_wp2_with (go_at_call 72; refine (HREP.out _).mono ?_; rintro e w1 ⟨v1, rfl, h1, h2⟩; have HO1 := Lib.hid h1; have HU1 := Lib.hid h2; obtain ⟨a1, c1, hv1⟩ := HDUP.out _ _ h1; subst hv1; clear h1 h2)
              simp only [Exit.jump]
              go_ret2
              exact ⟨rfl, HU1.out⟩
            · have e9 := unp_copy c d e r t most (by omega) (by omega) (by omega)
              rw [hcn, hdn, hen, hfr, hnn] at e9
              have HR5 : Hid (unp r.length r (dup t fr nn) most = R) := by
                show _ = _
                rw [← HQ.out]; exact e9.symm
              have HDL : Hid (r.length ≤ maxLen ∧ (dup t fr nn).length ≤ most) := ⟨by have := HL.out; simp only [List.length_cons] at this; omega, by rw [hdl]; omega⟩
              clear HQ HT HL e9
              go_wp2_with (go_at_call 71; refine (HTB.out _).mono ?_; rintro e w1 ⟨rfl, rfl⟩)
              go_quiet (fail)
              go_wp2_with (go_at_call 72; refine (HREP.out _).mono ?_; rintro e w1 ⟨v1, rfl, h1, h2⟩; have HO1 := Lib.hid h1; have HU1 := Lib.hid h2; obtain ⟨a1, c1, hv1⟩ := HDUP.out _ _ h1; subst hv1; clear h1 h2)
              go_step3
              exact ⟨rfl, jz_mk _ _ _ _ _ _ _ _ _ _ _ _ _ _ _ _ _ _ _ _ _ _ _ _ _ _ _ _ _ _ _ _ _ _ _ _ _ _ _ _ _ _ _ _ _ _ _ _ _ _ _ _ _ _ er.out (HRm.out _ _ _ _ HR5.out HO1.out HDL.out.2 HDL.out.1 HU1.out), htsz.out⟩
  · intro pass
    go_wp2
    go_step3
    rename_i K Q' hK
    exact hK _ _ (pass _ _ ⟨s, [], .slice none 0 0, fun _ => undef, rfl, H0⟩)
end Go.Proofs.YthlheamnfjjamaaDoor
