/- PathJoins, walked. -/
import Derived.Test.YtdbjinakbbiimaaDoorYl
import Derived.Test.YtdbjinakbbiimaaDoorUr
namespace Go.Proofs.YtdbjinakbbiimaaDoor
open Go.RowKit
set_option linter.unusedVariables false

theorem join_le (xs : List (List UInt8)) : (Lib.join xs [47]).length ≤ Lib.lens xs + xs.length := by
  cases xs with
  | nil => exact Nat.zero_le _
  | cons x r => rw [Lib.join_length]; simp; omega
theorem lens_sizes (Ss : List ByteArray) : Lib.lens (Ss.map (·.data.toList)) = (Ss.map ByteArray.size).sum := by
  unfold Lib.lens
  rw [List.map_map]; rfl
set_option maxRecDepth 100000 in
set_option maxHeartbeats 3200000 in
theorem pathJoins_any (a : Option Addr) (n c : Nat) (Ss : List ByteArray) (w : World) (hr : Strs w w.heap.size a n Ss) (hn : n ≤ 1048576) (hs : (Ss.map ByteArray.size).sum ≤ 1048576) (hm : Ml w) :
    Calls Tryd.prog 4 #[.slice a n c] w fun e w' => e = .returned (.bool true) ∧ Upd noBlock w w' := by
  obtain ⟨i0, hi0, hz0, hz1, hz2⟩ := strParts
  have hnot : ∀ (x : Bool) (w : World), (Op.unary .not (.bool x)).run Tryd.prog w = .ok (.bool (!x)) w := fun _ _ => rfl
  have hlen := hr.len
  have hl : (Lib.join (Ss.map (·.data.toList)) [47]).length ≤ 140737488355328 := by
    have h1 := join_le (Ss.map (·.data.toList))
    rw [lens_sizes, List.length_map] at h1
    omega
  have HSK := Lib.hid (fun W hW => speaks18_any W hW)
  have HM := Lib.hid hm
  have HS := Lib.hid hr
  have HL := Lib.hid hlen
  have HN := Lib.hid hn
  have HJN : Hid (∀ W B v, Ml W → OwnS W B 9 v Ss → Calls Tryd.prog 13 #[v] W (JoinA (Ss.map (·.data.toList)) W)) := fun W B v hW ho => by
    obtain ⟨a, c, rfl, hs, -⟩ := ho.sl hr.fit
    have hc := own_cap ho
    exact join_any a _ c W.heap.size Ss W hW hs (Nat.le_refl _) hc (by omega) hl
  have HRJ : Hid (∀ W, Upd noBlock w W → Calls Tryd.prog 12 #[.slice a n c] W (JoinA (Ss.map (·.data.toList)) W)) := fun W hW => rjoin_any a n c w.heap.size Ss W (hr.grow hW (Nat.le_refl _)) hW.size (by omega) hl
  have HT : Hid (∀ W B v, Upd noBlock w W → OwnS W B 9 v Ss → Calls Tryd.prog 10 #[v, .slice a n c] W fun e w' => e = .returned (.bool true) ∧ Upd noBlock W w') := fun W B v hW ho => by
    obtain ⟨a2, c2, rfl, hs2, -⟩ := ho.sl hr.fit
    have h9 := texts_any a2 a Ss.length c2 W.heap.size n c w.heap.size Ss Ss W hs2 (hr.grow hW (Nat.le_refl _)) (Nat.le_refl _) hW.size (by omega) (by omega)
    rw [decide_eq_true rfl] at h9
    exact h9
  have HFS : Hid (∀ W B v, OwnS W B 9 v Ss → ∃ a c, v = .slice a n c) := fun W B v ho => by
    obtain ⟨a, c, rfl, _, _⟩ := ho.sl hr.fit
    exact ⟨a, c, by rw [hlen]⟩
  unfold JoinA at HJN HRJ
  generalize (Pt.joinP (Ss.map (·.data.toList))).2 = x at *
  generalize (⟨(Pt.joinP (Ss.map (·.data.toList))).1.toArray⟩ : ByteArray) = q at *
  have eq := str_refl q
  have ex : (x == x) = true := beq_self_eq_true x
  clear hm hr hlen hn hs hl
  go_enter Tryd.func4, Tryd.ntmps4
  go_wp2_with (first
    | (go_at_call 7; (with_reducible refine (HSK.out _ HM.out).mono ?_); rintro e w1 ⟨rfl, hu1⟩; have U1 := Lib.hid hu1; have U2 := Lib.hid (hu1.alloc (.cells #[] 9)); have S2 := Lib.hid (HS.out.row.grow (hu1.alloc (.cells #[] 9)) (Nat.le_refl _)); have O2 := Lib.hid (OwnS.empty w1 9); clear hu1)
    | (at_builtin; refine wpList_append_vals _ rfl (.tmp 10) (.tmp 11) _ rfl w1.heap.size 9 i0 _ 16 Tryd.underlying23 hi0 hz0 hz1 hz2 rfl _ 0 [] rfl O2.out w.heap.size a n c (Ss.map Value.string) rfl S2.out (fun u hu => strs_one Ss u hu) (by have := HN.out; simp only [maxLen]; omega) (by have := HN.out; omega) (by simp) ?_; intro v6 w6 hown6 hg6 _; have O6 : Hid (OwnS w6 w1.heap.size 9 v6 Ss) := (by show _; simp only [Nat.zero_add, List.nil_append] at hown6; unfold OwnS; rw [HL.out]; exact hown6); have U6 := Lib.hid (upd_grown_own U2.out hg6 (fun i hi => Nat.le_trans U1.out.size (O2.out.lt i hi).1)); clear hown6 hg6; obtain ⟨a6, c6, hv6⟩ := HFS.out _ _ _ O6.out; subst hv6)
    | (go_at_call 13; (with_reducible refine (HJN.out _ _ _ (HM.out.upd U6.out) O6.out).mono ?_); rintro e w7 ⟨rfl, hu7⟩; have U7 := Lib.hid (U6.out.trans hu7); have O7 := Lib.hid (OwnS.grow O6.out hu7); clear hu7)
    | (go_at_call 12; (with_reducible refine (HRJ.out _ U7.out).mono ?_); rintro e w8 ⟨rfl, hu8⟩; have U8 := Lib.hid (U7.out.trans hu8); have O8 := Lib.hid (OwnS.grow O7.out hu8); clear hu8)
    | (go_at_call 10; (with_reducible refine (HT.out _ _ _ U8.out O8.out).mono ?_); rintro e w9 ⟨rfl, hu9⟩; have U9 := Lib.hid (U8.out.trans hu9); clear hu9))
  go_ret
  exact ⟨rfl, U9.out⟩
theorem pathJoins_walk (a : Option Addr) (n c : Nat) (Ss : List ByteArray) (w : World) (hr : Strs w w.heap.size a n Ss) (hn : n ≤ 1048576 ∧ (Ss.map ByteArray.size).sum ≤ 1048576) (hm : Ml w) :
    Calls Tryd.prog 4 #[.slice a n c] w fun e w' => e = .returned (.bool true) ∧ Below w.heap.size w w' :=
  (pathJoins_any a n c Ss w hr hn.1 hn.2 hm).mono fun _ _ ⟨h, hu⟩ => ⟨h, hu.below (fun _ _ h => h)⟩
end Go.Proofs.YtdbjinakbbiimaaDoor
