/- LzShort: a text of one byte gets short. -/
import Derived.Test.YtmacafdfgfkhkaaZo
import Derived.Deep.OwnRows
import Derived.Deep.CutRange
namespace Go.Proofs.Ytmacafdfgfkhkaa
open Go.RowKit

theorem rep_getD (b : UInt8) (n i : Nat) (h : i < n) : (List.replicate n b).getD i 0 = b := by
  rw [List.getD_eq_getElem?_getD, List.getElem?_replicate, if_pos h]; rfl
theorem three_rep (b : UInt8) (n p : Nat) : three (List.replicate n b) p = if p + 3 ≤ n then some (b, b, b) else none := by
  unfold three
  rw [List.length_replicate]
  by_cases h : p + 3 ≤ n
  · rw [if_pos h, if_pos h, rep_getD b n p (by omega), rep_getD b n (p + 1) (by omega), rep_getD b n (p + 2) (by omega)]
  · rw [if_neg h, if_neg h]
theorem prev_rep (b : UInt8) (n p : Nat) (h : p + 3 ≤ n) : prev (List.replicate n b) (p + 1) b b b = some p := by
  unfold prev
  rw [three_rep, if_pos h]
  show put3 _ _ _ _ _ _ _ _ = _
  unfold put3
  rw [if_pos ⟨rfl, rfl, rfl⟩]
theorem ext_rep (b : UInt8) (n q p : Nat) (hq : q < p) : ∀ (f k : Nat), k + f = 130 → p + k ≤ n → ext (List.replicate n b) q p f k = min 130 (n - p)
  | 0, k, h, hn => by unfold ext; omega
  | f + 1, k, h, hn => by
    unfold ext
    rw [List.length_replicate]
    by_cases hk : p + k < n
    · rw [if_pos ⟨by omega, hk, by rw [rep_getD b n _ (by omega), rep_getD b n _ hk]⟩]
      exact ext_rep b n q p hq f (k + 1) (by omega) (by omega)
    · rw [if_neg (fun h => hk h.2.1)]; omega
theorem rep_zero (b : UInt8) (n : Nat) : rep (List.replicate n b) 0 = (0, 0) := by
  unfold rep
  rw [three_rep]
  by_cases h : 0 + 3 ≤ n
  · rw [if_pos h]; rfl
  · rw [if_neg h]
theorem rep_in (b : UInt8) (n p : Nat) (h : p + 1 + 3 ≤ n) : rep (List.replicate n b) (p + 1) = (p, min 130 (n - (p + 1))) := by
  unfold rep
  rw [three_rep, if_pos h]
  simp only
  rw [prev_rep b n p (by omega)]
  simp only
  rw [ext_rep b n p (p + 1) (by omega) 127 3 rfl (by omega)]
theorem rep_out (b : UInt8) (n p : Nat) (h : ¬ p + 3 ≤ n) : rep (List.replicate n b) p = (0, 0) := by
  unfold rep
  rw [three_rep, if_neg h]
theorem pk_tail (b : UInt8) (n : Nat) : ∀ (k p d : Nat) (T : List UInt8), n - (p + 1) = k → k ≤ 3 → pk (List.replicate n b) (List.replicate n b).length (p + 1) d T = (T, d)
  | 0, p, d, T, h, _ => pk_end _ _ _ _ (by rw [List.length_replicate]; omega)
  | k + 1, p, d, T, h, hk => by
    rw [pk_one _ _ _ _ (by rw [List.length_replicate]; omega) ?_]
    · exact pk_tail b n k (p + 1) d T (by omega) (by omega)
    · by_cases h3 : p + 1 + 3 ≤ n
      · rw [rep_in b n p h3]; show min 130 _ < 4; omega
      · rw [rep_out b n _ h3]; show 0 < 4; omega
/-- the tokens from a place on where all have been told -/
def fin (b : UInt8) (n p d : Nat) (T : List UInt8) : List UInt8 := litT (List.replicate n b) (List.replicate n b).length (pk (List.replicate n b) (List.replicate n b).length p d T).1 (pk (List.replicate n b) (List.replicate n b).length p d T).2 (List.replicate n b).length
theorem litT_same (l : List UInt8) (f : Nat) (T : List UInt8) (d : Nat) : litT l f T d d = T := by
  rw [litT_fuel l f 0 T d d (by omega) (by omega)]; rfl
theorem litT_few (l : List UInt8) (f : Nat) (T : List UInt8) (d e : Nat) (h1 : d < e) (h2 : e - d ≤ 128) (h3 : e ≤ l.length) (h4 : e ≤ f) : (litT l f T d e).length = T.length + 1 + (e - d) := by
  rw [litT_step l f T d e h1 h4, show min (e - d) 128 = e - d by omega, show d + (e - d) = e by omega, litT_same]
  simp only [List.length_append, List.length_singleton, List.length_take, List.length_drop]
  omega
theorem copyT_length (d m : Nat) : (copyT d m).length = 3 := rfl
theorem fin_all (b : UInt8) (n p : Nat) (T : List UInt8) (h : n - (p + 1) = 0) (hp : p + 1 ≤ n) : (fin b n (p + 1) (p + 1) T).length = T.length := by
  unfold fin
  rw [pk_tail b n 0 p (p + 1) T h (by omega)]
  simp only
  rw [show (List.replicate n b).length = p + 1 by rw [List.length_replicate]; omega, litT_same]
theorem fin_bound (b : UInt8) (n : Nat) : ∀ (k p : Nat) (T : List UInt8), n - (p + 1) ≤ k → p + 1 ≤ n → (fin b n (p + 1) (p + 1) T).length ≤ T.length + 4 + 3 * ((n - (p + 1)) / 130)
  | k, p, T, hk, hp => by
    by_cases h3 : n - (p + 1) ≤ 3
    · unfold fin
      rw [pk_tail b n _ p (p + 1) T rfl h3]
      simp only
      by_cases h0 : p + 1 < n
      · rw [litT_few _ _ _ _ _ (by rw [List.length_replicate]; exact h0) (by rw [List.length_replicate]; omega) (Nat.le_refl _) (Nat.le_refl _), List.length_replicate]
        omega
      · rw [show (List.replicate n b).length = p + 1 by rw [List.length_replicate]; omega, litT_same]; omega
    · have hr := rep_in b n p (by omega)
      have e : fin b n (p + 1) (p + 1) T = fin b n (p + 1 + min 130 (n - (p + 1))) (p + 1 + min 130 (n - (p + 1))) (T ++ copyT (p + 1 - p - 1) (min 130 (n - (p + 1)))) := by
        unfold fin
        rw [pk_more _ (p + 1) (p + 1) T (by rw [List.length_replicate]; omega) (by rw [hr]; show ¬ min 130 _ < 4; omega), hr]
        simp only
        rw [litT_same]
      rw [e]
      by_cases h130 : n - (p + 1) ≤ 130
      · have hm : min 130 (n - (p + 1)) = n - (p + 1) := by omega
        rw [hm]
        have := fin_all b n (n - 1) (T ++ copyT (p + 1 - p - 1) (n - (p + 1))) (by omega) (by omega)
        rw [show n - 1 + 1 = p + 1 + (n - (p + 1)) by omega] at this
        rw [this, List.length_append, copyT_length]
        omega
      · have hm : min 130 (n - (p + 1)) = 130 := by omega
        rw [hm]
        match k, hk with
        | 0, hk => omega
        | k + 1, hk =>
          have ih := fin_bound b n k (p + 130) (T ++ copyT (p + 1 - p - 1) 130) (by omega) (by omega)
          rw [show p + 130 + 1 = p + 1 + 130 by omega, List.length_append, copyT_length] at ih
          omega
termination_by k => k
theorem packT_rep (b : UInt8) (n : Nat) (hn : 8 ≤ n) : (packT (List.replicate n b)).length ≤ 5 + (if n - 1 ≤ 130 then 0 else 4 + 3 * ((n - 131) / 130)) := by
  have hr := rep_in b n 0 (by omega)
  have e : packT (List.replicate n b) = fin b n (1 + min 130 (n - 1)) (1 + min 130 (n - 1)) (litT (List.replicate n b) 1 [] 0 1 ++ copyT 0 (min 130 (n - 1))) := by
    unfold packT fin
    rw [pk_one _ 0 0 [] (by rw [List.length_replicate]; omega) (by rw [rep_zero]; decide)]
    show litT _ _ (pk _ _ (0 + 1) 0 []).1 (pk _ _ (0 + 1) 0 []).2 _ = _
    rw [pk_more _ (0 + 1) 0 [] (by rw [List.length_replicate]; omega) (by rw [hr]; show ¬ min 130 _ < 4; omega), hr]
    simp only [Nat.zero_add, Nat.sub_zero, Nat.sub_self]
  have hl : (litT (List.replicate n b) 1 [] 0 1).length = 2 := by
    rw [litT_few _ _ _ _ _ (by omega) (by omega) (by rw [List.length_replicate]; omega) (Nat.le_refl _)]; rfl
  rw [e]
  by_cases h130 : n - 1 ≤ 130
  · rw [if_pos h130, show min 130 (n - 1) = n - 1 by omega]
    have := fin_all b n (n - 1) (litT (List.replicate n b) 1 [] 0 1 ++ copyT 0 (n - 1)) (by omega) (by omega)
    rw [show n - 1 + 1 = 1 + (n - 1) by omega] at this
    rw [this, List.length_append, hl, copyT_length]
    omega
  · rw [if_neg h130, show min 130 (n - 1) = 130 by omega]
    have ih := fin_bound b n n 130 (litT (List.replicate n b) 1 [] 0 1 ++ copyT 0 130) (by omega) (by omega)
    rw [List.length_append, hl, copyT_length] at ih
    show (fin b n (130 + 1) (130 + 1) _).length ≤ _
    omega
theorem packL_rep (b : UInt8) (n : Nat) (h8 : 8 ≤ n) (hn : n ≤ 65536) : (packL (List.replicate n b)).length ≤ 6 + n / 30 := by
  have h := packT_rep b n h8
  unfold packL
  rw [List.length_replicate]
  by_cases h130 : n - 1 ≤ 130
  · rw [if_pos h130] at h
    rw [if_pos ⟨hn, by omega⟩, List.length_cons]; omega
  · rw [if_neg h130] at h
    rw [if_pos ⟨hn, by omega⟩, List.length_cons]; omega

def shRow (b k j : Nat) : Value := .int .u8 ((if j < k then b else 0 : Nat) : Int)
theorem byteCellsZ : (Try.prog.info? 5).map (fun i => (i.zero, i.size, i.bytes)) = some (some (.int .u8 0), 1, 1) := by kernel_rfl
set_option maxRecDepth 20000 in
set_option maxHeartbeats 1600000 in
theorem lzShort_upd (b : UInt8) (n : Int) (w : World) :
    Calls Try.prog 5 #[.int .u8 (b.toNat : Int), .int .i64 n] w fun e w' => e = .returned (.bool true) ∧ Upd noBlock w w' := by
  obtain ⟨m, hm⟩ : ∃ m : Nat, (if n < 8 ∨ 65536 < n then 900 else n) = (m : Int) := by
    by_cases h : n < 8 ∨ 65536 < n
    · exact ⟨900, by rw [if_pos h]; rfl⟩
    · exact ⟨n.toNat, by rw [if_neg h]; omega⟩
  have hm8 : 8 ≤ m := by split at hm <;> omega
  have hmm : m ≤ 65536 := by split at hm <;> omega
  have HS := Lib.hid speaks_any
  have hmk : ∀ w : World, (Instr.makeSlice 31 (.int .i64 (m : Int)) (.int .i64 (m : Int))).run Try.prog w = .ok (.slice (some ⟨w.heap.size, 0, none⟩) m m) (w.alloc (.cells (madeCells #[.int .u8 0] m) 5)) :=
    run_make_row' (P := Try.prog) 31 5 (.int .u8 0) 1 Try.underlying31 byteCellsZ rfl .i64 .i64 m (by omega) (by omega)
  obtain ⟨O, HO⟩ : ∃ O : Obj, Hid (O = .cells (madeCells #[.int .u8 0] m) 5) := ⟨_, rfl⟩
  rw [← HO.out] at hmk
  have HB : Hid (∀ w : World, (w.alloc O).rowIs w.heap.size 5 m (shRow b.toNat 0)) := fun w => by
    rw [HO.out]
    exact (World.rowIs_made w (.int .u8 0) m 5).congr (fun i _ => by simp [shRow])
  obtain ⟨l, hl⟩ : ∃ l, List.replicate m b = l := ⟨_, rfl⟩
  have hll : l.length = m := by rw [← hl, List.length_replicate]
  have hlg : ∀ j (h : j < l.length), l[j].toNat = b.toNat := fun j h => by subst hl; rw [List.getElem_replicate]
  have HLG := Lib.hid hlg
  have HLL := Lib.hid hll
  have hpl := packL_rep b m hm8 hmm
  rw [hl] at hpl
  have HP := Lib.hid (fun w => Pack_any l w (by omega))
  have h3 := fun w => Unpack_any (packL l) (m : Int) w (by unfold maxLen; omega)
  have hup := unpack_pack l (by omega)
  rw [hll] at hup
  simp only [hup] at h3
  obtain ⟨pb, hpb⟩ : ∃ pb : ByteArray, ⟨(packL l).toArray⟩ = pb := ⟨_, rfl⟩
  have hpz : pb.size = (packL l).length := by rw [← hpb]; rfl
  obtain ⟨q, hq⟩ : ∃ q : ByteArray, ⟨l.toArray⟩ = q := ⟨_, rfl⟩
  simp only [hpb, hq] at h3
  rw [hpb, hq] at HP
  have H3 := Lib.hid h3
  have hqz : q.size = m := by rw [← hq, sz_str, hll]
  have HQ := Lib.hid hq
  have hd1 : ((packL l).length : Int) ≤ 6 + (m : Int) / 30 := by omega
  generalize (packL l).length = pn at *
  have HM := Lib.hid hm
  have HB256 : b.toNat < 256 := b.toNat_lt
  generalize b.toNat = bn at *
  clear hm HO hl hll hlg hpb hq h3 hup
  go_enter Try.func5, Try.ntmps5
  go_upto_region 3 with (go_at_call 8; refine (HS.out _).mono ?_; rintro e w1 ⟨rfl, h⟩; have HA := Lib.hid h; clear h)
  go_cut [17] from 10 to 53 (fun t wx => t = .bool (decide (n < 8 ∨ 65536 < n)) ∧ wx = w1)
  case first =>
    by_cases h1 : n < 8
    · have hd : (true : Bool) = decide (n < 8 ∨ 65536 < n) := (decide_eq_true (.inl h1)).symm
      have HD := Lib.hid hd
      clear hd
      go_wp2_with fail
      go_meet
      exact ⟨by rw [HD.out], rfl⟩
    · by_cases h2 : 65536 < n
      · have hd : (true : Bool) = decide (n < 8 ∨ 65536 < n) := (decide_eq_true (.inr h2)).symm
        have HD := Lib.hid hd
        clear hd
        go_wp2_with fail
        go_meet
        exact ⟨by rw [HD.out], rfl⟩
      · have hd : (false : Bool) = decide (n < 8 ∨ 65536 < n) := (decide_eq_false (fun h => h.elim h1 h2)).symm
        have HD := Lib.hid hd
        clear hd
        go_wp2_with fail
        go_meet
        exact ⟨by rw [HD.out], rfl⟩
  case rest =>
  obtain ⟨rfl, hwx⟩ := hcut
  subst hwx
  obtain ⟨wa, rfl⟩ : ∃ wa : World, wa = wc := ⟨_, rfl⟩
  obtain ⟨tb, htb⟩ : ∃ tb : Bool, decide (n < 8 ∨ 65536 < n) = tb := ⟨_, rfl⟩
  rw [htb]
  have HTB := Lib.hid htb
  clear htb
  go_upto_if 17 with fail
  go_cut [1] from 10 to 53 (fun v wx => v = .int .i64 (m : Int) ∧ wx = wa)
  case first =>
    cases tb
    · have hmi : (m : Int) = n := by have := HM.out; rw [if_neg (of_decide_eq_false HTB.out)] at this; omega
      have HMI := Lib.hid hmi
      clear hmi
      go_wp2_with fail
      go_meet
      exact ⟨by rw [HMI.out], rfl⟩
    · have hmi : (m : Int) = 900 := by have := HM.out; rw [if_pos (of_decide_eq_true HTB.out)] at this; omega
      have HMI := Lib.hid hmi
      clear hmi
      go_wp2_with fail
      go_meet
      exact ⟨by rw [HMI.out], rfl⟩
  case rest =>
    obtain ⟨rfl, hwx⟩ := hcut
    subst hwx
    have HB1 := Lib.hid (HB.out wc)
    have HU1 : Hid (Upd noBlock w (wc.alloc O)) := HA.out.alloc _
    have HWC : Hid (w.heap.size ≤ wc.heap.size) := HA.out.size
    clear HB HA HM
    obtain ⟨wb, rfl⟩ : ∃ wb : World, wb = wc := ⟨_, rfl⟩
    go_wp2_with fail
    clear hmk
    go_loopw [6] (fun i wr => ∃ k : Nat, k ≤ m ∧ i = .int .i64 (k : Int) ∧ Hid (wr.rowIs wb.heap.size 5 m (shRow bn k)) ∧ Hid (Upd noBlock w wr)) (fun i _ => m - (intOfZ i).toNat)
    case atStart => exact ⟨0, Nat.zero_le _, rfl, HB1, HU1⟩
    case round =>
      clear HB1 HU1
      obtain ⟨k, hk, rfl, HB, HU⟩ := hrel
      by_cases h0 : k < m
      · have hrow : ∀ i, shRow bn (k + 1) i = if i = k then .int .u8 (bn : Int) else shRow bn k i := fun i => by
          unfold shRow
          by_cases hi : i = k
          · subst hi; rw [if_pos rfl, if_pos (by omega)]
          · rw [if_neg hi]
            have : i < k + 1 ↔ i < k := by omega
            simp only [this]
        have HN2 : Hid ((wr.setCell ⟨wb.heap.size, k, none⟩ (.int .u8 (bn : Int))).rowIs wb.heap.size 5 m (shRow bn (k + 1))) :=
          (HB.out.set k _).congr (fun i _ => (hrow i).symm)
        have HNU : Hid (Upd noBlock w (wr.setCell ⟨wb.heap.size, k, none⟩ (.int .u8 (bn : Int)))) := HU.out.setCell (.inr HWC.out) _
        have c1 := HB.out.cell (i := k) h0
        have f1 := HB.out.frozen k
        clear hrow
        generalize shRow bn k k = z0 at c1
        go_wp2_with fail
        go_roundw
        case rel => exact ⟨k + 1, by omega, by go_num, HN2, HNU⟩
        case measure => simp [intOfZ]; omega
      · obtain rfl : k = m := by omega
        have HCV : Hid (∀ W : World, Upd noBlock wr W → (convert 31 9 (.slice (some ⟨wb.heap.size, 0, none⟩) k k)).run Try.prog W = .ok (.string q) W) := fun W hW => by
          have h := run_convert_bytes_back (P := Try.prog) W 31 9 5 ⟨wb.heap.size, 0, none⟩ k l Try.underlying31 Try.underlying5 Try.underlying9 (fun j hj => by
            have hc := HB.out.cell (i := j) (by rw [← HLL.out]; exact hj)
            rw [add_zero_addr, HLG.out j hj]
            have e : shRow bn k j = .int .u8 (bn : Int) := by unfold shRow; rw [if_pos (by rw [← HLL.out]; exact hj)]
            rw [e] at hc
            exact upd_cell hW hc)
          rw [HLL.out, HQ.out] at h
          exact h
        have hcv0 := HCV.out wr (Upd.refl _ _)
        go_wp2_with (first | (go_at_call 11; refine (HP.out _).mono ?_; rintro e w2 ⟨rfl, h⟩; have HB2 := Lib.hid h; clear h) | (go_at_call 9; refine (H3.out _).mono ?_; rintro e w4 ⟨rfl, h⟩; have HD := Lib.hid (HB2.out.trans h); clear h HB2; have hcv1 := HCV.out _ HD.out))
        go_ret
        exact ⟨rfl, HU.out.trans HD.out⟩
theorem lzShort_walk (b : Int) (n : Int) (w : World) (hb : (Lit.int IntKind.u8 b).wf = true) (_ : (Lit.int IntKind.i64 n).wf = true) :
    Calls Try.prog 5 #[.int .u8 b, .int .i64 n] w fun e w' => e = .returned (.bool true) ∧ Below w.heap.size w w' := by
  have h : (decide ((0 : Int) ≤ b) && decide (b ≤ 255)) = true := hb
  simp only [Bool.and_eq_true, decide_eq_true_eq] at h
  have e : ((UInt8.ofNat b.toNat).toNat : Int) = b := by rw [u8_ofNat]; omega
  rw [← e]
  exact (lzShort_upd _ n w).mono fun _ _ ⟨h, hu⟩ => ⟨h, hu.below (fun _ _ h => h)⟩
end Go.Proofs.Ytmacafdfgfkhkaa
