/- take: what a line does. -/
import Derived.Test.YthcjogigkagmdaaGreatDoorCor
namespace Go.Proofs.YthcjogigkagmdaaGreatDoor
open Go.RowKit
set_option linter.unusedVariables false

theorem RdSome.grow {w w' : World} {rb B : Nat} {s : Con.Scr} {n : Int} (h : RdSome w rb B s n) (hu : Upd noBlock w w') : RdSome w' rb B s n := by
  obtain ⟨v, g1, g2, g3, g4, g5, h⟩ := h
  exact ⟨v, g1, g2, g3, g4, g5, h.grow hu⟩
theorem RdSome.line {w : World} {rb B : Nat} {s : Con.Scr} {n : Int} (h : RdSome w rb B s n) : w.cell? ⟨rb, 6, none⟩ = some (.int .i64 n) ∧ w.frozen? ⟨rb, 6, none⟩ = false ∧ 10 ≤ rb := by
  obtain ⟨v, g1, g2, g3, g4, g5, h⟩ := h
  obtain ⟨⟨_, _, _, _, _, _, h6⟩, _, _, _, _, _, _, f6⟩ := rd_cells h.head
  exact ⟨h6, f6, h.base⟩
/-- what take does -/
def TakeP (rb B : Nat) (s : Con.Scr) (n : Int) (l : List UInt8) (w : World) (e : Ending) (w' : World) : Prop :=
  (((Con.takeL s l).2 = 0 ∧ e = .returned .nilIface ∧ RdSome w' rb B (Con.takeL s l).1 n ∧ (Con.takeL s l).1.acts.length ≤ s.acts.length + 1) ∨ ((Con.takeL s l).2 ≠ 0 ∧ e = .returned (errV (Con.takeL s l).2 n) ∧ ∃ s', RdSome w' rb B s' n)) ∧ Upd (above rb B) w w'
theorem prefix_hash (l : List UInt8) : Lib.hasPrefix l [35] = (l.head? == some 35) := by
  cases l with
  | nil => rfl
  | cons c l => simp [Lib.hasPrefix, List.isPrefixOf, Bool.beq_comm]
theorem FdR.tail1 {w : World} {B c : Nat} {g off : Nat} {f : Con.Fd} {r : List Con.Fd} (h : FdR w B (some ⟨g, off, none⟩) (r.length + 1) (f :: r)) (hc : ¬ c = 1) : FdR w B (some ⟨g, off + 2, none⟩) r.length r :=
  ⟨rfl, fun h0 => by
    obtain ⟨g', off', e, hg, hcl⟩ := h.cell (by omega)
    cases e
    refine ⟨g, off + 2, rfl, hg, fun j hj => ?_⟩
    obtain ⟨h1, h2⟩ := hcl (j + 1) (by omega)
    rw [show off + 2 + j * 2 = off + (j + 1) * 2 by omega]
    exact ⟨h1, h2⟩, fun x hx => h.fit x (List.mem_cons_of_mem _ hx)⟩
theorem FdR.none1 {w : World} {B : Nat} (a : Option Addr) : FdR w B a 0 [] := ⟨rfl, fun h => absurd h (by omega), fun f hf => by cases hf⟩
theorem add_any (rb B : Nat) (s : Con.Scr) (n : Int) (k : Nat) (hk : k < 23) (ad : Option Addr) (m c : Nat) (F : List Con.Fd) (w : World) (hg : Gl w) (hr : RdSome w rb B s n) (hF : FdR w w.heap.size ad m F) (hm : m ≤ 1048576) (hs : s.acts.length ≤ 1048576) (hBw : B ≤ w.heap.size) :
    Calls Tryz.prog 55 #[.pointer (some ⟨rb, 0, none⟩), .int .i64 (k : Int), .slice ad m c] w (AddP rb B s n k F w) := by
  by_cases h0 : k = 0
  · subst h0; exact add_geo rb B s n ad m c F w hg hr hF hm
  · exact add_act rb B s n k h0 hk ad m c F w hg hr hF hm hs hBw
set_option maxRecDepth 100000 in
set_option maxHeartbeats 1600000 in
theorem take_any (rb B : Nat) (s : Con.Scr) (n : Int) (x : ByteArray) (w : World) (hg : Gl w) (hr : RdSome w rb B s n) (hx : x.size ≤ 1048576) (hs : s.acts.length ≤ 1048576) (hBw : B ≤ w.heap.size) :
    Calls Tryz.prog 37 #[.pointer (some ⟨rb, 0, none⟩), .string x] w (TakeP rb B s n x.data.toList w) := by
  have hl : x.data.toList.length = x.size := rfl
  have HHP := Lib.hid (fun W => Tryz.strings_HasPrefix x ⟨#[35]⟩ W)
  have HSP := Lib.hid (fun W => split_any x W hx)
  have HP : Hid (∀ W, Calls Tryz.prog 51 #[.string x, .string ⟨#[35]⟩] W fun e w' => e = .returned (.bool (x.data.toList.head? == some 35)) ∧ w' = W) := fun W => by
    have h9 := HHP.out W
    rw [show (⟨#[35]⟩ : ByteArray).data.toList = [35] from rfl, prefix_hash] at h9
    exact h9
  have HL : Hid (x.data.toList.length ≤ 1048576) := by show _ ≤ _; omega
  have HT : Hid (Con.takeL s x.data.toList = if x.data.toList.head? = some 35 then (s, 0) else Con.takeF s (Con.lexA [] .bet x.data.toList)) := rfl
  have HR := Lib.hid hr
  have HG := Lib.hid hg
  unfold TakeP
  generalize Con.takeL s x.data.toList = T at *
  generalize x.data.toList = l at *
  have hnot : ∀ (x : Bool) (w : World), (Op.unary .not (.bool x)).run Tryz.prog w = .ok (.bool (!x)) w := fun _ _ => rfl
  have HHB : Hid (B ≤ w.heap.size) := hBw
  clear HHP hl hr hg hBw
  by_cases hh : l.head? = some 35
  · rw [hh, show (some (35 : UInt8) == some 35) = true from rfl] at HP
    rw [if_pos hh] at HT
    clear hh
    go_enter Tryz.func37, Tryz.ntmps37
    go_wp2_with (go_at_call 51; (with_reducible refine (HP.out _).mono ?_); rintro e w1 ⟨rfl, hw⟩; obtain rfl := hw.symm)
    go_ret
    exact ⟨.inl ⟨by rw [HT.out], rfl, by rw [HT.out]; exact HR.out, by rw [HT.out]; exact Nat.le_succ _⟩, Upd.refl _ _⟩
  · rw [show (l.head? == some 35) = false from by simpa using hh] at HP
    rw [if_neg hh] at HT
    clear hh
    go_enter Tryz.func37, Tryz.ntmps37
    go_wp2_with (go_at_call 51; (with_reducible refine (HP.out _).mono ?_); rintro e w1 ⟨rfl, hw⟩; obtain rfl := hw.symm)
    refine (HSP.out _).mono ?_
    rintro e w1 ⟨h, hu⟩
    have U1 := Lib.hid hu
    have R1 := Lib.hid (HR.out.grow hu)
    have G1 := Lib.hid (HG.out.grow hu)
    have UA : Hid (Upd (above rb B) w w1) := hu.mono (fun _ _ h => h.elim)
    have c6 := R1.out.line.1
    have HWR := Lib.hid (fun c => wrong_any rb c n w1 c6)
    clear hu
    rcases h with ⟨F, a, cp, h1, rfl, hFR, hFl, hFc⟩ | ⟨h1, rfl⟩
    · rw [h1] at HT
      cases F with
      | nil =>
        have HT2 : Hid (T = (s, 0)) := HT.out
        clear hFR h1
        go_wp2
        go_ret
        exact ⟨.inl ⟨by rw [HT2.out], rfl, by rw [HT2.out]; exact R1.out, by rw [HT2.out]; exact Nat.le_succ _⟩, UA.out⟩
      | cons f r =>
        obtain ⟨g, off, ha, _, hcl⟩ := hFR.cell (by simp)
        subst ha
        obtain ⟨d0, d1⟩ := hcl 0 (by simp)
        simp only [Nat.zero_mul, Nat.add_zero, List.getD_cons_zero] at d0 d1
        have HKO := Lib.hid (kindOf_any f w1 G1.out)
        unfold fdV at HKO
        have HFl := Lib.hid hFl
        have HFR := Lib.hid hFR
        have HE : Hid (Con.takeF s (some (f :: r)) = match Con.kindF f with | none => (s, 140) | some k => match Con.addF s k r with | some t => (t, 0) | none => (s, 1)) := rfl
        have hTE : Hid (T = Con.takeF s (some (f :: r))) := HT.out
        rw [HE.out] at hTE
        obtain ⟨f1, f2⟩ := f
        clear h1 hFR hcl HT HE hFl
        cases hkf : Con.kindF (f1, f2) with
        | none =>
          rw [hkf] at HKO hTE
          have HT2 : Hid (T = (s, 140)) := hTE.out
          unfold kindOut at HKO
          have HKO2 : Hid (∀ W, W = w1 → Calls Tryz.prog 54 #[.agg #[.string f1, .bool f2]] W fun e w' => e = .returned (.tuple #[.int .i64 0, .bool false]) ∧ Upd noBlock w1 w') := fun W h => by rw [h]; exact HKO.out
          clear hkf HKO
          go_wp2_with (first
            | (go_at_call 54; (with_reducible refine (HKO2.out _ rfl).mono ?_); rintro e w2 ⟨rfl, hu⟩; have U2 := Lib.hid hu; have HWR2 := Lib.hid (fun c => wrong_any rb c n w2 (R1.out.grow hu).line.1); clear hu)
            | (go_at_call 53; (with_reducible refine (HWR2.out _).mono ?_); rintro e w3 ⟨rfl, rfl⟩))
          go_ret
          exact ⟨.inr ⟨by rw [HT2.out]; show (140 : Int) ≠ 0; decide, by rw [HT2.out]; rfl, s, R1.out.grow U2.out⟩, UA.out.trans (Upd.mono (R' := above rb B) U2.out (fun _ _ h => h.elim))⟩
        | some k =>
          have hk23 : k < 23 := by have := Con.kindF_lt hkf; omega
          rw [hkf] at HKO hTE
          have HT2 : Hid (T = match Con.addF s k r with | some t => (t, 0) | none => (s, 1)) := hTE.out
          unfold kindOut at HKO
          have HRL : Hid (r.length ≤ 1048576) := by
            have h9 := HFl.out
            have h8 := HL.out
            rw [List.length_cons] at h9
            show _ ≤ _; omega
          clear hkf hTE
          by_cases hcp : cp = 1
          · have hr0 : r = [] := List.eq_nil_of_length_eq_zero (by rw [hcp, List.length_cons] at hFc; omega)
            subst hcp hr0
            have HADD : Hid (∀ W, Upd noBlock w1 W → ∀ a c, Calls Tryz.prog 55 #[.pointer (some ⟨rb, 0, none⟩), .int .i64 (k : Int), .slice a 0 c] W (AddP rb B s n k [] W)) := fun W h a c =>
              add_any rb B s n k hk23 a 0 c [] W (G1.out.grow h) (R1.out.grow h) (FdR.none1 a) (by omega) hs (Nat.le_trans HHB.out (Nat.le_trans UA.out.size h.size))
            go_wp2_with (first
              | (go_at_call 54; (with_reducible refine HKO.out.mono ?_); rintro e w2 ⟨rfl, hu⟩; have U2 := Lib.hid hu; clear hu))
            refine (HADD.out _ U2.out _ _).mono ?_
            rintro e w3 ⟨h3, hu3⟩
            have UB : Hid (Upd (above rb B) w w3) := (UA.out.trans (Upd.mono (R' := above rb B) U2.out (fun _ _ h => h.elim))).trans hu3
            clear hu3
            rcases h3 with ⟨t, h4, rfl, h5, h6⟩ | ⟨h4, rfl, h5⟩
            · rw [h4] at HT2
              have HT3 : Hid (T = (t, 0)) := HT2.out
              clear h4
              have H5 := Lib.hid h5
              have H6 := Lib.hid h6
              clear h5 h6
              go_wp2
              go_ret
              exact ⟨.inl ⟨by rw [HT3.out], rfl, by rw [HT3.out]; exact H5.out, by rw [HT3.out]; exact H6.out⟩, UB.out⟩
            · rw [h4] at HT2
              have HT3 : Hid (T = (s, 1)) := HT2.out
              clear h4
              have HWR3 := Lib.hid (fun c => wrong_any rb c n w3 h5.line.1)
              have H5 := Lib.hid h5
              clear h5
              go_wp2_with (go_at_call 53; (with_reducible refine (HWR3.out _).mono ?_); rintro e w2 ⟨rfl, rfl⟩)
              go_ret
              exact ⟨.inr ⟨by rw [HT3.out]; show (1 : Int) ≠ 0; decide, by rw [HT3.out]; rfl, s, H5.out⟩, UB.out⟩
          · have HADD : Hid (∀ W, Upd noBlock w1 W → Calls Tryz.prog 55 #[.pointer (some ⟨rb, 0, none⟩), .int .i64 (k : Int), .slice (some ⟨g, off + 2, none⟩) r.length (cp - 1)] W (AddP rb B s n k r W)) := fun W h =>
              add_any rb B s n k hk23 _ _ _ r W (G1.out.grow h) (R1.out.grow h) ((HFR.out.tail1 hcp).grow h (Nat.le_refl _) |> fun h9 => ⟨h9.len, fun h0 => by obtain ⟨g', o', e1, e2, e3⟩ := h9.cell h0; exact ⟨g', o', e1, Nat.lt_of_lt_of_le e2 h.size, e3⟩, h9.fit⟩) (by have := HRL.out; omega) hs (Nat.le_trans HHB.out (Nat.le_trans UA.out.size h.size))
            go_wp2_with (first
              | (go_at_call 54; (with_reducible refine HKO.out.mono ?_); rintro e w2 ⟨rfl, hu⟩; have U2 := Lib.hid hu; clear hu))
            refine (HADD.out _ U2.out).mono ?_
            rintro e w3 ⟨h3, hu3⟩
            have UB : Hid (Upd (above rb B) w w3) := (UA.out.trans (Upd.mono (R' := above rb B) U2.out (fun _ _ h => h.elim))).trans hu3
            clear hu3
            rcases h3 with ⟨t, h4, rfl, h5, h6⟩ | ⟨h4, rfl, h5⟩
            · rw [h4] at HT2
              have HT3 : Hid (T = (t, 0)) := HT2.out
              clear h4
              have H5 := Lib.hid h5
              have H6 := Lib.hid h6
              clear h5 h6
              go_wp2
              go_ret
              exact ⟨.inl ⟨by rw [HT3.out], rfl, by rw [HT3.out]; exact H5.out, by rw [HT3.out]; exact H6.out⟩, UB.out⟩
            · rw [h4] at HT2
              have HT3 : Hid (T = (s, 1)) := HT2.out
              clear h4
              have HWR3 := Lib.hid (fun c => wrong_any rb c n w3 h5.line.1)
              have H5 := Lib.hid h5
              clear h5
              go_wp2_with (go_at_call 53; (with_reducible refine (HWR3.out _).mono ?_); rintro e w2 ⟨rfl, rfl⟩)
              go_ret
              exact ⟨.inr ⟨by rw [HT3.out]; show (1 : Int) ≠ 0; decide, by rw [HT3.out]; rfl, s, H5.out⟩, UB.out⟩
    · rw [h1] at HT
      have HT2 : Hid (T = (s, 4)) := HT.out
      clear h1
      go_wp2_with (go_at_call 53; (with_reducible refine (HWR.out _).mono ?_); rintro e w2 ⟨rfl, rfl⟩)
      go_ret
      exact ⟨.inr ⟨by rw [HT2.out]; show (4 : Int) ≠ 0; decide, by rw [HT2.out]; rfl, s, R1.out⟩, UA.out⟩
end Go.Proofs.YthcjogigkagmdaaGreatDoor
