/- read: a text, line by line. -/
import Derived.Test.YthcjogigkagmdaaGreatDoorCos
namespace Go.Proofs.YthcjogigkagmdaaGreatDoor
open Go.RowKit
set_option linter.unusedVariables false

theorem index_nl_eq (l : List UInt8) : Lib.index (10 :: l) [10] = 0 := by unfold Lib.index; rw [if_pos (by simp [List.isPrefixOf])]
theorem index_nl_ne (c : UInt8) (l : List UInt8) (hc : c ≠ 10) : Lib.index (c :: l) [10] = if Lib.index l [10] == -1 then -1 else Lib.index l [10] + 1 := by
  conv => lhs; unfold Lib.index
  rw [if_neg (by simp [List.isPrefixOf]; exact fun e => hc e.symm)]
theorem lines_ne {c : UInt8} (hc : c ≠ 10) (l : List UInt8) : Con.linesOf (c :: l) = match Con.linesOf l with
    | [] => [[c]]
    | x :: t => (c :: x) :: t := by
  rw [Con.linesOf, if_neg hc]; rfl
theorem cut_lines (l : List UInt8) (h0 : l ≠ []) : Con.linesOf l = (Lib.cut l [10]).1 :: Con.linesOf (Lib.cut l [10]).2.1 ∧ (Lib.cut l [10]).2.1.length < l.length ∧ (Lib.cut l [10]).1.length ≤ l.length := by
  induction l with
  | nil => exact absurd rfl h0
  | cons c l ih =>
    by_cases hc : c = 10
    · subst hc
      have : Lib.cut (10 :: l) [10] = ([], l, true) := by
        unfold Lib.cut
        rw [index_nl_eq]; rfl
      rw [this, Con.linesOf_nl]
      exact ⟨rfl, by simp, Nat.zero_le _⟩
    · have hge := Lib.index_ge l [10]
      by_cases hm : Lib.index l [10] = -1
      · have hi : Lib.index (c :: l) [10] = -1 := by rw [index_nl_ne c l hc, hm]; rfl
        have hcut : Lib.cut (c :: l) [10] = (c :: l, [], false) := by
          unfold Lib.cut
          rw [hi]; rfl
        rw [hcut]
        refine ⟨?_, by simp, Nat.le_refl _⟩
        cases l with
        | nil => rw [lines_ne hc]; rfl
        | cons d l =>
          have h9 := (ih (by simp)).1
          have hcut2 : Lib.cut (d :: l) [10] = (d :: l, [], false) := by
            unfold Lib.cut
            rw [hm]; rfl
          rw [hcut2] at h9
          rw [lines_ne hc, h9]
      · obtain ⟨i, hi⟩ : ∃ i : Nat, Lib.index l [10] = i := ⟨(Lib.index l [10]).toNat, by omega⟩
        have hi2 : Lib.index (c :: l) [10] = ((i + 1 : Nat) : Int) := by
          rw [index_nl_ne c l hc, hi]
          rw [if_neg (by simp)]; rfl
        have hl : l ≠ [] := by rintro rfl; exact hm rfl
        obtain ⟨h1, h2, h3⟩ := ih hl
        have hcut : Lib.cut (c :: l) [10] = (c :: l.take i, l.drop (i + 1), true) := by
          unfold Lib.cut
          rw [hi2]; rfl
        have hcut2 : Lib.cut l [10] = (l.take i, l.drop (i + 1), true) := by
          unfold Lib.cut
          rw [hi]; rfl
        rw [hcut2] at h1 h2 h3
        rw [hcut]
        refine ⟨?_, by simp only [List.length_cons] at *; omega, by simp only [List.length_cons] at *; omega⟩
        rw [lines_ne hc, h1]
theorem RdSome.bump {w : World} {rb B : Nat} {s : Con.Scr} {n : Int} (h : RdSome w rb B s n) (m : Int) : RdSome (w.setCell ⟨rb, 6, none⟩ (.int .i64 m)) rb B s m := by
  obtain ⟨v, g1, g2, g3, g4, g5, h⟩ := h
  refine ⟨v, g1, g2, g3, g4, g5, block_set (i := 6) h.head _, h.nums, ?_, h.base⟩
  obtain ⟨hl, ho⟩ := h.acts
  refine ⟨hl, ?_⟩
  rcases ho with ⟨h1, h2⟩ | ⟨g, cap, cur, rfl, hb, hgg, r⟩
  · exact .inl ⟨h1, h2⟩
  · refine .inr ⟨g, cap, cur, rfl, hb, block_set_other hgg ?_ _, r⟩
    rintro rfl
    have h9 := h.head
    rw [hgg] at h9
    cases h9
/-- what read does -/
def ReadP (rb B : Nat) (t : List UInt8) (w : World) (e : Ending) (w' : World) : Prop :=
  (((Con.runL 0 Con.zS (Con.linesOf t)).2.1 = 0 ∧ e = .returned .nilIface ∧ ∃ n, RdSome w' rb B (Con.runL 0 Con.zS (Con.linesOf t)).1 n ∧ (Con.runL 0 Con.zS (Con.linesOf t)).1.acts.length ≤ t.length) ∨ ((Con.runL 0 Con.zS (Con.linesOf t)).2.1 ≠ 0 ∧ e = .returned (errV (Con.runL 0 Con.zS (Con.linesOf t)).2.1 ((Con.runL 0 Con.zS (Con.linesOf t)).2.2 : Int)) ∧ ∃ s' n, RdSome w' rb B s' n)) ∧ Upd (above rb B) w w'
/-- what holds ahead of each round -/
structure ReJ (w wr : World) (rb B : Nat) (R : Con.Scr × Int × Nat) (N : Nat) (q : ByteArray) (s : Con.Scr) (k : Nat) : Prop where
  run : R = Con.runL k s (Con.linesOf q.data.toList)
  rd : RdSome wr rb B s (k : Int)
  len : k + q.size ≤ N
  acts : s.acts.length ≤ k
  up : Upd (above rb B) w wr
set_option maxRecDepth 100000 in
set_option maxHeartbeats 1600000 in
theorem read_any (rb B : Nat) (x : ByteArray) (w : World) (hg : Gl w) (hr : RdSome w rb B Con.zS 0) (hx : x.size ≤ 65536) (hBw : B ≤ w.heap.size) (hB10 : 10 ≤ B) :
    Calls Tryz.prog 20 #[.pointer (some ⟨rb, 0, none⟩), .string x] w (ReadP rb B x.data.toList w) := by
  have hl : x.data.toList.length = x.size := rfl
  have H0 : Hid (ReJ w w rb B (Con.runL 0 Con.zS (Con.linesOf x.data.toList)) x.size x Con.zS 0) := ⟨rfl, hr, by omega, Nat.le_refl _, Upd.refl _ _⟩
  have HX : Hid (x.size ≤ x.data.toList.length) := by show _ ≤ _; omega
  have HG : Hid (∀ W, Upd (above rb B) w W → Gl W) := fun W h => hg.upd h (fun k hk h => by have := hr.line.2.2; unfold above at h; omega)
  have HBW : Hid (∀ W, Upd (above rb B) w W → B ≤ W.heap.size) := fun W h => Nat.le_trans hBw h.size
  unfold ReadP
  generalize Con.runL 0 Con.zS (Con.linesOf x.data.toList) = R at *
  generalize x.data.toList = l at *
  obtain ⟨N, hN⟩ : ∃ N, x.size = N := ⟨_, rfl⟩
  rw [hN] at H0 HX hx
  clear hg hr hBw hl
  go_enter Tryz.func20, Tryz.ntmps20
  go_wp2
  go_loopw [1] (fun t wr => ∃ (q : ByteArray) (s : Con.Scr) (k : Nat), t = .string q ∧ Hid (ReJ w wr rb B R N q s k)) (fun t _ => strZ t)
  case atStart => exact ⟨x, _, _, rfl, H0⟩
  case round =>
    clear H0
    obtain ⟨q, s, k, rfl, HJ⟩ := hrel
    have hJ := HJ.out
    have hql : q.data.toList.length = q.size := rfl
    have hlen := hJ.len
    have hnot : ∀ (x : Bool) (w : World), (Op.unary .not (.bool x)).run Tryz.prog w = .ok (.bool (!x)) w := fun _ _ => rfl
    by_cases h0 : q.size = 0
    · have hq0 : q.data.toList = [] := List.eq_nil_of_length_eq_zero h0
      have z0 : q.toList.isEmpty = true := by rw [Lib.toList_data, hq0]; rfl
      have z1 : (!q.toList.isEmpty) = false := by rw [z0]; rfl
      have HR : Hid (R = (s, 0, 0)) := by show _ = _; rw [hJ.run, hq0]; rfl
      have HA : Hid (s.acts.length ≤ l.length) := by have := hJ.acts; have := HX.out; show _ ≤ _; omega
      clear hJ h0 hq0 hql hlen
      go_wp2
      go_ret
      exact ⟨.inl ⟨by rw [HR.out], rfl, _, by rw [HR.out]; exact HJ.out.rd, by rw [HR.out]; exact HA.out⟩, HJ.out.up⟩
    · have hq0 : q.data.toList ≠ [] := by intro e; rw [e] at hql; exact h0 hql.symm
      have z0 : q.toList.isEmpty = false := by rw [Lib.toList_data]; simpa using hq0
      have z1 : (!q.toList.isEmpty) = true := by rw [z0]; rfl
      obtain ⟨hc1, hc2, hc3⟩ := cut_lines q.data.toList hq0
      have hgl := HG.out _ hJ.up
      obtain ⟨m, hml⟩ := hgl.ml
      have HCUT := Lib.hid (Tryz.strings_Cut q ⟨#[10]⟩ m wr (by omega) hml)
      rw [show (⟨#[10]⟩ : ByteArray).data.toList = [10] from rfl] at HCUT
      obtain ⟨X, hX⟩ : ∃ X : ByteArray, ⟨(Lib.cut q.data.toList [10]).1.toArray⟩ = X := ⟨_, rfl⟩
      obtain ⟨Y, hY⟩ : ∃ Y : ByteArray, ⟨(Lib.cut q.data.toList [10]).2.1.toArray⟩ = Y := ⟨_, rfl⟩
      have hXd : X.data.toList = (Lib.cut q.data.toList [10]).1 := by rw [← hX]
      have hYd : Y.data.toList = (Lib.cut q.data.toList [10]).2.1 := by rw [← hY]
      rw [hX, hY] at HCUT
      rw [← hXd, ← hYd] at hc1
      rw [← hYd] at hc2
      rw [← hXd] at hc3
      have hXz : X.data.toList.length = X.size := rfl
      have hYz : Y.data.toList.length = Y.size := rfl
      have HYQ : Hid (Y.size < q.size) := by show _ < _; omega
      obtain ⟨fo, hfo⟩ : ∃ fo, (Lib.cut q.data.toList [10]).2.2 = fo := ⟨_, rfl⟩
      rw [hfo] at HCUT
      have hrun := hJ.run
      rw [hc1, Con.runL] at hrun
      have HRUN := Lib.hid hrun
      have HRD := Lib.hid hJ.rd
      have HUP := Lib.hid hJ.up
      have hka := hJ.acts
      have hwk : IntKind.i64.wrap ((k : Int) + 1) = (k : Int) + 1 := IntWalk.i64_in _ (by omega)
      have HTK : Hid (∀ W, Upd (above rb B) w W → RdSome W rb B s ((k : Int) + 1) → Calls Tryz.prog 37 #[.pointer (some ⟨rb, 0, none⟩), .string X] W (TakeP rb B s ((k : Int) + 1) X.data.toList W)) := fun W hu hr => take_any rb B s _ X W (HG.out _ hu) hr (by omega) (by omega) (HBW.out _ hu)
      clear hrun hc1 hc2 hc3 hXd hYd hX hY hfo hml hgl hq0 h0 hJ HJ
      go_wp2_with (first
        | (go_at_call 36; (with_reducible refine HCUT.out.mono ?_); rintro e w1 ⟨rfl, nn, hw⟩; have U1 : Hid (Upd noBlock wr w1) := (by rw [hw]; exact (Upd.refl _ _).drewN _); have R1 := Lib.hid (HRD.out.grow U1.out); obtain ⟨c6, f6, hb6⟩ := R1.out.line; have HW6 : Hid (Upd (above rb B) w (w1.setCell ⟨rb, 6, none⟩ (.int .i64 ((k : Int) + 1)))) := (HUP.out.trans (Upd.mono (R' := above rb B) U1.out (fun _ _ h => h.elim))).setCell (p := ⟨rb, 6, none⟩) (.inl (.inl rfl)) _; have HR6 := Lib.hid (R1.out.bump ((k : Int) + 1)); clear hw))
      refine (HTK.out _ HW6.out HR6.out).mono ?_
      rintro e w2 ⟨h, hu⟩
      have HU2 := Lib.hid (HW6.out.trans hu)
      clear hu
      rcases h with ⟨h1, rfl, h2, h3⟩ | ⟨h1, rfl, s', h2⟩
      · have hrun2 := HRUN.out
        rw [if_pos h1] at hrun2
        have HN : Hid (ReJ w w2 rb B R N Y (Con.takeL s X.data.toList).1 (k + 1)) := ⟨hrun2, by rw [Int.natCast_add]; exact h2, by have := HYQ.out; omega, by omega, HU2.out⟩
        clear h1 h2 h3 hrun2
        go_wp2
        go_roundw
        case rel => exact ⟨Y, _, k + 1, rfl, HN⟩
        case measure => exact HYQ.out
      · have hrun2 := HRUN.out
        rw [if_neg h1] at hrun2
        have HR : Hid (R = (Con.zS, (Con.takeL s X.data.toList).2, k + 1)) := hrun2
        have H1 := Lib.hid h1
        have H2 := Lib.hid h2
        generalize (Con.takeL s X.data.toList).2 = cd at *
        unfold errV
        clear h1 h2 hrun2 HRUN
        go_wp2
        go_ret
        exact ⟨.inr ⟨by rw [HR.out]; exact H1.out, by rw [HR.out]; rfl, s', _, H2.out⟩, HU2.out⟩
end Go.Proofs.YthcjogigkagmdaaGreatDoor
