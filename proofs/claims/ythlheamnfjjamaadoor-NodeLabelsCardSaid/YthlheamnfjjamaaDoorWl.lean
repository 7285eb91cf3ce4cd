/- NodeLabels. -/
import Derived.Test.YthlheamnfjjamaaDoorAr
import Derived.Test.YthlheamnfjjamaaDoorWla
import Derived.Test.YthlheamnfjjamaaDoorWlb
namespace Go.Proofs.YthlheamnfjjamaaDoor
open Go.RowKit Cm
attribute [local irreducible] beZ valN Cm.shs Cm.nxt Cm.reg Cm.ext
set_option linter.unusedVariables false

theorem conv_lab (k : Nat) (hk : k < 256) (h : Nat) (W : World) (hc : W.heap[h]? = some (.cells #[.int .u8 (k : Int)] 5 (0, 0))) : (convert 59 9 (.slice (some ⟨h, 0, none⟩) 1 1)).run Tryd.prog W = .ok (.string ⟨[UInt8.ofNat k].toArray⟩) W := by
  have hb2 : ((UInt8.ofNat k).toNat : Int) = (k : Int) := by rw [u8_ofNat']; omega
  generalize UInt8.ofNat k = y at *
  exact run_convert_bytes_back W 59 9 5 ⟨h, 0, none⟩ 1 [y] Tryd.underlying59 Tryd.underlying5 Tryd.underlying9 (fun j hj => by
    have : j = 0 := by simpa using hj
    subst this
    rw [add_zero_addr, cell_of hc]
    simp only [List.getElem_cons_zero, hb2]; rfl)
theorem nl_g (w : World) (k : Nat) (a b c : Int) (l : List UInt8) (hk : k < 256) (wa : (Lit.int .i64 a).wf = true) (wb : (Lit.int .i64 b).wf = true) (wc : (Lit.int .i64 c).wf = true) (hg : goodLab k a b c = true) (hl : l.length ≤ 140737488351232) (hT : Tab w) :
    Calls Tryd.prog 6 #[.int .u8 (k : Int), .agg #[.int .i64 a, .int .i64 b, .int .i64 c], .string ⟨l.toArray⟩] w fun e w' => e = .returned (.bool true) ∧ Upd noBlock w w' := by
  have HT : Hid (∀ W, Upd noBlock w W → Tab W) := fun W h => hT.upd h
  have hz : (⟨l.toArray⟩ : ByteArray).size = l.length := rfl
  have hPL := fun W hW => putLabel_any k a b c W hk hW
  rw [hg] at hPL
  have hGL2 := fun W hW => getLabel_any l W (by omega) hW
  have hg' := hg
  unfold goodLab at hg'
  simp only [Bool.and_eq_true, decide_eq_true_eq] at hg'
  obtain ⟨⟨h1, h2⟩, ha, hb, hc⟩ := hg'
  have he : encLab k a b c = sealed (rawLab k a b c) := by unfold encLab; rw [if_pos hg]
  rw [he] at hPL
  have hFa := fun W => refFits_any a W
  rw [ha] at hFa
  have hFb := fun W => refFits_any b W
  rw [hb] at hFb
  have hFc := fun W => refFits_any c W
  rw [hc] at hFc
  have ra := (okN_iff a).1 ha
  have hBa := fun W => refBytesA 8 (by decide) 8 rfl a ra.1 (by omega) W
  have rb := (okN_iff b).1 hb
  have hBb := fun W => refBytesA 8 (by decide) 8 rfl b rb.1 (by omega) W
  have rc := (okN_iff c).1 hc
  have hBc := fun W => refBytesA 8 (by decide) 8 rfl c rc.1 (by omega) W
  obtain ⟨g1, g2⟩ := getL_put k a b c l hk wa wb wc hg
  have hsl : (sealed (rawLab k a b c)).length = 29 := by rw [sealed_length, rawLab_length]
  have hGL1 := fun W hW => getLabel_any (sealed (rawLab k a b c) ++ l) W (by rw [List.length_append, hsl]; omega) hW
  rw [g1, g2] at hGL1
  have hraw : rawLab k a b c = (([UInt8.ofNat k] ++ beZ 8 a) ++ beZ 8 b) ++ beZ 8 c := by unfold rawLab; rw [List.append_assoc, List.append_assoc]
  have hSE := fun W => refSeal_any ⟨(rawLab k a b c).toArray⟩ W (by show (rawLab k a b c).length ≤ _; rw [rawLab_length]; decide)
  have e3 : (⟨(([UInt8.ofNat k] ++ beZ 8 a) ++ beZ 8 b).toArray⟩ : ByteArray) ++ ⟨(beZ 8 c).toArray⟩ = ⟨(rawLab k a b c).toArray⟩ := by rw [cat_bytes, hraw]
  cases hi : getLok l with
  | false =>
    have hv : getLV l = labV 0 0 0 0 := by unfold getLV; rw [hi]; rfl
    rw [hi, hv] at hGL2
    exact nl_gn w k a b c _ ⟨l.toArray⟩ _ _ _ _ _ _ _ _ HT (Lib.hid hPL) (Lib.hid hFa) (Lib.hid hFb) (Lib.hid hFc) (by omega) (by omega) (by show (sealed (rawLab k a b c)).length ≤ 100; omega) (cat_bytes _ _) (Lib.hid hGL1) (Lib.hid hBa) (Lib.hid hBb) (Lib.hid hBc) (Lib.hid hSE) (cat_bytes _ _) (cat_bytes _ _) e3 rfl (by show (beZ 8 a).length = 8; exact beZ_length _ _) (by show (beZ 8 b).length = 8; exact beZ_length _ _) (by show (beZ 8 c).length = 8; exact beZ_length _ _) (by show ([UInt8.ofNat k] ++ beZ 8 a).length = 9; rw [List.length_append, beZ_length]; rfl) (by show (([UInt8.ofNat k] ++ beZ 8 a) ++ beZ 8 b).length = 17; rw [List.length_append, List.length_append, beZ_length, beZ_length]; rfl) (Lib.hid (conv_lab k hk)) (Lib.hid hGL2) l.length hz (by omega)
  | true =>
    have hv : getLV l = labV (fstL l) (genL l) (numbL l) (totL l) := by unfold getLV; rw [hi]; rfl
    rw [hi, hv] at hGL2
    obtain ⟨k1, k2, k3⟩ := getL_back l hi
    have hx : (⟨l.toArray⟩ : ByteArray).extract 0 29 = ⟨(l.take 29).toArray⟩ := by rw [ext_str, List.drop_zero]
    have hPL2 := fun W hW => putLabel_any (fstL l) (genL l) (numbL l) (totL l) W (fstL_lt l) hW
    have he2 : encLab (fstL l) (genL l) (numbL l) (totL l) = l.take 29 := by unfold encLab; rw [if_pos k1]; exact k3
    rw [k1, he2] at hPL2
    exact nl_gy w k a b c _ ⟨l.toArray⟩ _ _ _ _ _ _ _ _ (fstL l) (genL l) (numbL l) (totL l) HT (Lib.hid hPL) (Lib.hid hFa) (Lib.hid hFb) (Lib.hid hFc) (by omega) (by omega) (by show (sealed (rawLab k a b c)).length ≤ 100; omega) (cat_bytes _ _) (Lib.hid hGL1) (Lib.hid hBa) (Lib.hid hBb) (Lib.hid hBc) (Lib.hid hSE) (cat_bytes _ _) (cat_bytes _ _) e3 rfl (by show (beZ 8 a).length = 8; exact beZ_length _ _) (by show (beZ 8 b).length = 8; exact beZ_length _ _) (by show (beZ 8 c).length = 8; exact beZ_length _ _) (by show ([UInt8.ofNat k] ++ beZ 8 a).length = 9; rw [List.length_append, beZ_length]; rfl) (by show (([UInt8.ofNat k] ++ beZ 8 a) ++ beZ 8 b).length = 17; rw [List.length_append, List.length_append, beZ_length, beZ_length]; rfl) (Lib.hid (conv_lab k hk)) (Lib.hid hGL2) l.length hz (by omega) (by omega) _ hx (Lib.hid hPL2)
theorem nl_1 (w : World) (k : Nat) (a b c : Int) (l : List UInt8) (hk : k < 256) (wa : (Lit.int .i64 a).wf = true) (wb : (Lit.int .i64 b).wf = true) (wc : (Lit.int .i64 c).wf = true) (h1 : ¬ 65 ≤ k) (hl : l.length ≤ 140737488351232) (hT : Tab w) :
    Calls Tryd.prog 6 #[.int .u8 (k : Int), .agg #[.int .i64 a, .int .i64 b, .int .i64 c], .string ⟨l.toArray⟩] w fun e w' => e = .returned (.bool true) ∧ Upd noBlock w w' := by
  have HT : Hid (∀ W, Upd noBlock w W → Tab W) := fun W h => hT.upd h
  have hz : (⟨l.toArray⟩ : ByteArray).size = l.length := rfl
  have hg : goodLab k a b c = false := by
    unfold goodLab
    rw [decide_eq_false h1, Bool.false_and, Bool.false_and]
  have hPL := fun W hW => putLabel_any k a b c W hk hW
  rw [hg] at hPL
  have hGL2 := fun W hW => getLabel_any l W (by omega) hW
  have he : encLab k a b c = [] := by unfold encLab; rw [hg]; rfl
  rw [he] at hPL
  cases hi : getLok l with
  | false =>
    have hv : getLV l = labV 0 0 0 0 := by unfold getLV; rw [hi]; rfl
    rw [hi, hv] at hGL2
    exact nl_1n w k a b c _ ⟨l.toArray⟩ HT (Lib.hid hPL) (by omega) rfl (Lib.hid hGL2) l.length hz (by omega)
  | true =>
    have hv : getLV l = labV (fstL l) (genL l) (numbL l) (totL l) := by unfold getLV; rw [hi]; rfl
    rw [hi, hv] at hGL2
    obtain ⟨k1, k2, k3⟩ := getL_back l hi
    have hx : (⟨l.toArray⟩ : ByteArray).extract 0 29 = ⟨(l.take 29).toArray⟩ := by rw [ext_str, List.drop_zero]
    have hPL2 := fun W hW => putLabel_any (fstL l) (genL l) (numbL l) (totL l) W (fstL_lt l) hW
    have he2 : encLab (fstL l) (genL l) (numbL l) (totL l) = l.take 29 := by unfold encLab; rw [if_pos k1]; exact k3
    rw [k1, he2] at hPL2
    exact nl_1y w k a b c _ ⟨l.toArray⟩ (fstL l) (genL l) (numbL l) (totL l) HT (Lib.hid hPL) (by omega) rfl (Lib.hid hGL2) l.length hz (by omega) (by omega) _ hx (Lib.hid hPL2)
theorem nl_2 (w : World) (k : Nat) (a b c : Int) (l : List UInt8) (hk : k < 256) (wa : (Lit.int .i64 a).wf = true) (wb : (Lit.int .i64 b).wf = true) (wc : (Lit.int .i64 c).wf = true) (h1 : 65 ≤ k) (h2 : ¬ k ≤ 90) (hl : l.length ≤ 140737488351232) (hT : Tab w) :
    Calls Tryd.prog 6 #[.int .u8 (k : Int), .agg #[.int .i64 a, .int .i64 b, .int .i64 c], .string ⟨l.toArray⟩] w fun e w' => e = .returned (.bool true) ∧ Upd noBlock w w' := by
  have HT : Hid (∀ W, Upd noBlock w W → Tab W) := fun W h => hT.upd h
  have hz : (⟨l.toArray⟩ : ByteArray).size = l.length := rfl
  have hg : goodLab k a b c = false := by
    unfold goodLab
    rw [decide_eq_false h2, Bool.and_false, Bool.false_and]
  have hPL := fun W hW => putLabel_any k a b c W hk hW
  rw [hg] at hPL
  have hGL2 := fun W hW => getLabel_any l W (by omega) hW
  have he : encLab k a b c = [] := by unfold encLab; rw [hg]; rfl
  rw [he] at hPL
  cases hi : getLok l with
  | false =>
    have hv : getLV l = labV 0 0 0 0 := by unfold getLV; rw [hi]; rfl
    rw [hi, hv] at hGL2
    exact nl_2n w k a b c _ ⟨l.toArray⟩ HT (Lib.hid hPL) (by omega) (by omega) rfl (Lib.hid hGL2) l.length hz (by omega)
  | true =>
    have hv : getLV l = labV (fstL l) (genL l) (numbL l) (totL l) := by unfold getLV; rw [hi]; rfl
    rw [hi, hv] at hGL2
    obtain ⟨k1, k2, k3⟩ := getL_back l hi
    have hx : (⟨l.toArray⟩ : ByteArray).extract 0 29 = ⟨(l.take 29).toArray⟩ := by rw [ext_str, List.drop_zero]
    have hPL2 := fun W hW => putLabel_any (fstL l) (genL l) (numbL l) (totL l) W (fstL_lt l) hW
    have he2 : encLab (fstL l) (genL l) (numbL l) (totL l) = l.take 29 := by unfold encLab; rw [if_pos k1]; exact k3
    rw [k1, he2] at hPL2
    exact nl_2y w k a b c _ ⟨l.toArray⟩ (fstL l) (genL l) (numbL l) (totL l) HT (Lib.hid hPL) (by omega) (by omega) rfl (Lib.hid hGL2) l.length hz (by omega) (by omega) _ hx (Lib.hid hPL2)
theorem nl_3 (w : World) (k : Nat) (a b c : Int) (l : List UInt8) (hk : k < 256) (wa : (Lit.int .i64 a).wf = true) (wb : (Lit.int .i64 b).wf = true) (wc : (Lit.int .i64 c).wf = true) (h1 : 65 ≤ k) (h2 : k ≤ 90) (ha : okN a = false) (hl : l.length ≤ 140737488351232) (hT : Tab w) :
    Calls Tryd.prog 6 #[.int .u8 (k : Int), .agg #[.int .i64 a, .int .i64 b, .int .i64 c], .string ⟨l.toArray⟩] w fun e w' => e = .returned (.bool true) ∧ Upd noBlock w w' := by
  have HT : Hid (∀ W, Upd noBlock w W → Tab W) := fun W h => hT.upd h
  have hz : (⟨l.toArray⟩ : ByteArray).size = l.length := rfl
  have hg : goodLab k a b c = false := by
    unfold goodLab
    rw [ha, Bool.false_and, Bool.and_false]
  have hPL := fun W hW => putLabel_any k a b c W hk hW
  rw [hg] at hPL
  have hGL2 := fun W hW => getLabel_any l W (by omega) hW
  have he : encLab k a b c = [] := by unfold encLab; rw [hg]; rfl
  rw [he] at hPL
  have hFa := fun W => refFits_any a W
  rw [ha] at hFa
  cases hi : getLok l with
  | false =>
    have hv : getLV l = labV 0 0 0 0 := by unfold getLV; rw [hi]; rfl
    rw [hi, hv] at hGL2
    exact nl_3n w k a b c _ ⟨l.toArray⟩ HT (Lib.hid hPL) (Lib.hid hFa) (by omega) (by omega) rfl (Lib.hid hGL2) l.length hz (by omega)
  | true =>
    have hv : getLV l = labV (fstL l) (genL l) (numbL l) (totL l) := by unfold getLV; rw [hi]; rfl
    rw [hi, hv] at hGL2
    obtain ⟨k1, k2, k3⟩ := getL_back l hi
    have hx : (⟨l.toArray⟩ : ByteArray).extract 0 29 = ⟨(l.take 29).toArray⟩ := by rw [ext_str, List.drop_zero]
    have hPL2 := fun W hW => putLabel_any (fstL l) (genL l) (numbL l) (totL l) W (fstL_lt l) hW
    have he2 : encLab (fstL l) (genL l) (numbL l) (totL l) = l.take 29 := by unfold encLab; rw [if_pos k1]; exact k3
    rw [k1, he2] at hPL2
    exact nl_3y w k a b c _ ⟨l.toArray⟩ (fstL l) (genL l) (numbL l) (totL l) HT (Lib.hid hPL) (Lib.hid hFa) (by omega) (by omega) rfl (Lib.hid hGL2) l.length hz (by omega) (by omega) _ hx (Lib.hid hPL2)
theorem nl_4 (w : World) (k : Nat) (a b c : Int) (l : List UInt8) (hk : k < 256) (wa : (Lit.int .i64 a).wf = true) (wb : (Lit.int .i64 b).wf = true) (wc : (Lit.int .i64 c).wf = true) (h1 : 65 ≤ k) (h2 : k ≤ 90) (ha : okN a = true) (hb : okN b = false) (hl : l.length ≤ 140737488351232) (hT : Tab w) :
    Calls Tryd.prog 6 #[.int .u8 (k : Int), .agg #[.int .i64 a, .int .i64 b, .int .i64 c], .string ⟨l.toArray⟩] w fun e w' => e = .returned (.bool true) ∧ Upd noBlock w w' := by
  have HT : Hid (∀ W, Upd noBlock w W → Tab W) := fun W h => hT.upd h
  have hz : (⟨l.toArray⟩ : ByteArray).size = l.length := rfl
  have hg : goodLab k a b c = false := by
    unfold goodLab
    rw [hb, Bool.false_and, Bool.and_false, Bool.and_false]
  have hPL := fun W hW => putLabel_any k a b c W hk hW
  rw [hg] at hPL
  have hGL2 := fun W hW => getLabel_any l W (by omega) hW
  have he : encLab k a b c = [] := by unfold encLab; rw [hg]; rfl
  rw [he] at hPL
  have hFa := fun W => refFits_any a W
  rw [ha] at hFa
  have hFb := fun W => refFits_any b W
  rw [hb] at hFb
  cases hi : getLok l with
  | false =>
    have hv : getLV l = labV 0 0 0 0 := by unfold getLV; rw [hi]; rfl
    rw [hi, hv] at hGL2
    exact nl_4n w k a b c _ ⟨l.toArray⟩ HT (Lib.hid hPL) (Lib.hid hFa) (Lib.hid hFb) (by omega) (by omega) rfl (Lib.hid hGL2) l.length hz (by omega)
  | true =>
    have hv : getLV l = labV (fstL l) (genL l) (numbL l) (totL l) := by unfold getLV; rw [hi]; rfl
    rw [hi, hv] at hGL2
    obtain ⟨k1, k2, k3⟩ := getL_back l hi
    have hx : (⟨l.toArray⟩ : ByteArray).extract 0 29 = ⟨(l.take 29).toArray⟩ := by rw [ext_str, List.drop_zero]
    have hPL2 := fun W hW => putLabel_any (fstL l) (genL l) (numbL l) (totL l) W (fstL_lt l) hW
    have he2 : encLab (fstL l) (genL l) (numbL l) (totL l) = l.take 29 := by unfold encLab; rw [if_pos k1]; exact k3
    rw [k1, he2] at hPL2
    exact nl_4y w k a b c _ ⟨l.toArray⟩ (fstL l) (genL l) (numbL l) (totL l) HT (Lib.hid hPL) (Lib.hid hFa) (Lib.hid hFb) (by omega) (by omega) rfl (Lib.hid hGL2) l.length hz (by omega) (by omega) _ hx (Lib.hid hPL2)
theorem nl_5 (w : World) (k : Nat) (a b c : Int) (l : List UInt8) (hk : k < 256) (wa : (Lit.int .i64 a).wf = true) (wb : (Lit.int .i64 b).wf = true) (wc : (Lit.int .i64 c).wf = true) (h1 : 65 ≤ k) (h2 : k ≤ 90) (ha : okN a = true) (hb : okN b = true) (hc : okN c = false) (hl : l.length ≤ 140737488351232) (hT : Tab w) :
    Calls Tryd.prog 6 #[.int .u8 (k : Int), .agg #[.int .i64 a, .int .i64 b, .int .i64 c], .string ⟨l.toArray⟩] w fun e w' => e = .returned (.bool true) ∧ Upd noBlock w w' := by
  have HT : Hid (∀ W, Upd noBlock w W → Tab W) := fun W h => hT.upd h
  have hz : (⟨l.toArray⟩ : ByteArray).size = l.length := rfl
  have hg : goodLab k a b c = false := by
    unfold goodLab
    rw [hc, Bool.and_false, Bool.and_false, Bool.and_false]
  have hPL := fun W hW => putLabel_any k a b c W hk hW
  rw [hg] at hPL
  have hGL2 := fun W hW => getLabel_any l W (by omega) hW
  have he : encLab k a b c = [] := by unfold encLab; rw [hg]; rfl
  rw [he] at hPL
  have hFa := fun W => refFits_any a W
  rw [ha] at hFa
  have hFb := fun W => refFits_any b W
  rw [hb] at hFb
  have hFc := fun W => refFits_any c W
  rw [hc] at hFc
  cases hi : getLok l with
  | false =>
    have hv : getLV l = labV 0 0 0 0 := by unfold getLV; rw [hi]; rfl
    rw [hi, hv] at hGL2
    exact nl_5n w k a b c _ ⟨l.toArray⟩ HT (Lib.hid hPL) (Lib.hid hFa) (Lib.hid hFb) (Lib.hid hFc) (by omega) (by omega) rfl (Lib.hid hGL2) l.length hz (by omega)
  | true =>
    have hv : getLV l = labV (fstL l) (genL l) (numbL l) (totL l) := by unfold getLV; rw [hi]; rfl
    rw [hi, hv] at hGL2
    obtain ⟨k1, k2, k3⟩ := getL_back l hi
    have hx : (⟨l.toArray⟩ : ByteArray).extract 0 29 = ⟨(l.take 29).toArray⟩ := by rw [ext_str, List.drop_zero]
    have hPL2 := fun W hW => putLabel_any (fstL l) (genL l) (numbL l) (totL l) W (fstL_lt l) hW
    have he2 : encLab (fstL l) (genL l) (numbL l) (totL l) = l.take 29 := by unfold encLab; rw [if_pos k1]; exact k3
    rw [k1, he2] at hPL2
    exact nl_5y w k a b c _ ⟨l.toArray⟩ (fstL l) (genL l) (numbL l) (totL l) HT (Lib.hid hPL) (Lib.hid hFa) (Lib.hid hFb) (Lib.hid hFc) (by omega) (by omega) rfl (Lib.hid hGL2) l.length hz (by omega) (by omega) _ hx (Lib.hid hPL2)
theorem nodeLabels_walk (k0 a b c : Int) (qs : ByteArray) (w : World) (wk : (Lit.int .u8 k0).wf = true) (wa : (Lit.int .i64 a).wf = true) (wb : (Lit.int .i64 b).wf = true) (wc : (Lit.int .i64 c).wf = true) (hs : qs.size ≤ 140737488351232) (hT : Tab w) :
    Calls Tryd.prog 6 #[.int .u8 k0, .agg #[.int .i64 a, .int .i64 b, .int .i64 c], .string qs] w fun e w' => e = .returned (.bool true) ∧ Below w.heap.size w w' := by
  obtain ⟨l, rfl⟩ : ∃ l : List UInt8, qs = ⟨l.toArray⟩ := ⟨qs.data.toList, rfl⟩
  have hl : l.length ≤ 140737488351232 := hs
  simp [Lit.wf, IntKind.min, IntKind.max, IntKind.signed, IntKind.bits] at wk
  obtain ⟨k, rfl⟩ : ∃ k : Nat, k0 = (k : Int) := ⟨k0.toNat, by omega⟩
  have hk : k < 256 := by omega
  refine Calls.mono (?_ : Calls _ _ _ _ fun e w' => e = .returned (.bool true) ∧ Upd noBlock w w') fun _ _ (h : _ ∧ Upd noBlock w _) => ⟨h.1, h.2.below (fun _ _ h => h)⟩
  by_cases h1 : 65 ≤ k
  · by_cases h2 : k ≤ 90
    · cases ha : okN a with
      | false => exact nl_3 w k a b c l hk wa wb wc h1 h2 ha hl hT
      | true =>
        cases hb : okN b with
        | false => exact nl_4 w k a b c l hk wa wb wc h1 h2 ha hb hl hT
        | true =>
          cases hc : okN c with
          | false => exact nl_5 w k a b c l hk wa wb wc h1 h2 ha hb hc hl hT
          | true => exact nl_g w k a b c l hk wa wb wc (by unfold goodLab; rw [decide_eq_true h1, decide_eq_true h2, ha, hb, hc]; rfl) hl hT
    · exact nl_2 w k a b c l hk wa wb wc h1 h2 hl hT
  · exact nl_1 w k a b c l hk wa wb wc h1 hl hT
end Go.Proofs.YthlheamnfjjamaaDoor
