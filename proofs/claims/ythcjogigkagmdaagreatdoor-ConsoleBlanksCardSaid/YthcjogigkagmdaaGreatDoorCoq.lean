/- split: the fields of a line. -/
import Derived.Test.YthcjogigkagmdaaGreatDoorCop
import Derived.Laws.AppendOwn
import Derived.Laws.OwnMore
import Derived.Lib.TrimByte
import Derived.ScopeJumps
import Derived.WalkMore
import Derived.Tactics2
import Derived.StillTactics
namespace Go.Proofs.YthcjogigkagmdaaGreatDoor
open Go.RowKit
set_option linter.unusedVariables false

/-- fields' cells -/
def fdsC (F : List Con.Fd) : List Value := F.flatMap fun f => [.string f.1, .bool f.2]
theorem fdsC_snoc (F : List Con.Fd) (f : Con.Fd) : fdsC (F ++ [f]) = fdsC F ++ [.string f.1, .bool f.2] := by simp [fdsC]
theorem fdsC_at {F : List Con.Fd} {j : Nat} {f : Con.Fd} (h : F[j]? = some f) : (fdsC F)[j * 2]? = some (.string f.1) ∧ (fdsC F)[j * 2 + 1]? = some (.bool f.2) :=
  flat_two (fun f : Con.Fd => Value.string f.1) (fun f => Value.bool f.2) F j f h
/-- what holds at the label -/
structure SJ (w wr : World) (l : List UInt8) (q : ByteArray) (v : Value) (F : List Con.Fd) : Prop where
  run : Con.lexA [] .bet l = Con.lexA F .bet q.data.toList
  own : wr.ownsRow w.heap.size 148 2 v F.length (fdsC F)
  len : F.length + q.size ≤ l.length
  fit : ∀ f ∈ F, f.1.size ≤ l.length
  up : Upd noBlock w wr
theorem sp_mk {w wr : World} {l : List UInt8} {q : ByteArray} {v : Value} {F : List Con.Fd} (x1 x5 x6 x7 x8 x9 x10 x11 x12 x13 x14 x15 x16 x17 x18 x19 x20 x21 x22 x23 x24 x25 x26 x27 x28 x29 x30 x31 x32 x33 x34 : Value) (HJ : Hid (SJ w wr l q v F)) :
    ∃ (q' : ByteArray) (v' : Value) (F' : List Con.Fd) (u : Nat → Value), ({ tmps := #[.string q, x1, .slice none 0 0, .bool false, v, x5, x6, x7, x8, x9, x10, x11, x12, x13, x14, x15, x16, x17, x18, x19, x20, x21, x22, x23, x24, x25, x26, x27, x28, x29, x30, x31, x32, x33, x34], defers := [] } : Act) = { tmps := #[.string q', u 1, .slice none 0 0, .bool false, v', u 5, u 6, u 7, u 8, u 9, u 10, u 11, u 12, u 13, u 14, u 15, u 16, u 17, u 18, u 19, u 20, u 21, u 22, u 23, u 24, u 25, u 26, u 27, u 28, u 29, u 30, u 31, u 32, u 33, u 34], defers := [] } ∧ Hid (SJ w wr l q' v' F') :=
  ⟨q, v, F, fun i => match i with | 1 => x1 | 5 => x5 | 6 => x6 | 7 => x7 | 8 => x8 | 9 => x9 | 10 => x10 | 11 => x11 | 12 => x12 | 13 => x13 | 14 => x14 | 15 => x15 | 16 => x16 | 17 => x17 | 18 => x18 | 19 => x19 | 20 => x20 | 21 => x21 | 22 => x22 | 23 => x23 | 24 => x24 | 25 => x25 | 26 => x26 | 27 => x27 | 28 => x28 | 29 => x29 | 30 => x30 | 31 => x31 | 32 => x32 | 33 => x33 | 34 => x34 | _ => undef, rfl, HJ⟩
theorem fldParts : ∃ i0 z, Tryz.prog.info? 148 = some i0 ∧ i0.zero = some z ∧ i0.size = 2 ∧ i0.bytes = 24 ∧ z.cells.size = 2 := by
  have h : (Tryz.prog.info? 148).map (fun i => (i.zero.map (fun z => z.cells.size), i.size, i.bytes)) = some (some 2, 2, 24) := by kernel_rfl
  obtain ⟨i0, h1, h2⟩ := Option.map_eq_some_iff.1 h
  simp only [Prod.mk.injEq, Option.map_eq_some_iff] at h2
  obtain ⟨⟨z, hz, hz5⟩, h3, h4⟩ := h2
  exact ⟨i0, z, h1, hz, h3, h4, hz5⟩
theorem own_row_grow {w w' : World} {B : Nat} {e : TypeId} {n m : Nat} {v : Value} {xs : List Value} (h : w.ownsRow B e n v m xs) (hu : Upd noBlock w w') : w'.ownsRow B e n v m xs := by
  obtain ⟨hl, h⟩ := h
  refine ⟨hl, ?_⟩
  rcases h with ⟨h1, h2⟩ | ⟨g, cap, cur, rfl, hb, hg, r⟩
  · exact .inl ⟨h1, h2⟩
  · exact .inr ⟨g, cap, cur, rfl, hb, (hu.block g (lt_of_block hg) (fun h => h)).trans hg, r⟩
theorem own_row_base {w : World} {B : Nat} {e : TypeId} {n m : Nat} {v : Value} {xs : List Value} (h : w.ownsRow B e n v m xs) : ∀ k, v.ownBlock = some k → B ≤ k ∧ ∃ C, w.heap[k]? = some (.cells C e (0, 0)) := fun k hk => by
  rcases h.2 with ⟨h1, _⟩ | ⟨g, cap, cur, rfl, hb, hg, _⟩
  · rw [h1] at hk; cases hk
  · cases hk; exact ⟨hb, cur, hg⟩
/-- a row of fields as its readers want it -/
theorem fd_row {w : World} {B : Nat} {v : Value} {F : List Con.Fd} (h : w.ownsRow B 148 2 v F.length (fdsC F)) (hf : ∀ f ∈ F, f.1.size ≤ 140737488351232) :
    ∃ a c, v = .slice a F.length c ∧ FdR w w.heap.size a F.length F ∧ F.length ≤ c := by
  obtain ⟨hl, h⟩ := h
  rcases h with ⟨h1, h2⟩ | ⟨g, cap, cur, rfl, hb, hg, hnc, hcap, r⟩
  · have : F = [] := List.eq_nil_of_length_eq_zero h2
    subst this
    exact ⟨none, 0, h1, ⟨rfl, fun h => absurd h (by simp), hf⟩, Nat.le_refl _⟩
  · refine ⟨some ⟨g, 0, none⟩, cap, rfl, ⟨rfl, fun _ => ⟨g, 0, rfl, lt_of_block hg, fun j hj => ?_⟩, hf⟩, hnc⟩
    have hget : ∀ i u, (fdsC F)[i]? = some u → w.cell? ⟨g, i, none⟩ = some u := fun i u hu => by
      rw [cell_of hg, ← Array.getElem?_toList, ← hu, ← r.2]
      rw [List.getElem?_take, if_pos]
      have := (List.getElem?_eq_some_iff.1 hu).1
      rw [hl] at this
      exact this
    have hFj : F[j]? = some (F.getD j (⟨#[]⟩, false)) := by
      rw [List.getD_eq_getElem?_getD, List.getElem?_eq_getElem hj]; rfl
    obtain ⟨h1, h2⟩ := fdsC_at hFj
    rw [Nat.zero_add]
    exact ⟨hget _ _ h1, hget _ _ h2⟩
/-- what split answers -/
def SplitP (l : List UInt8) (w : World) (e : Ending) (w' : World) : Prop :=
  ((∃ (F : List Con.Fd) (a : Option Addr) (c : Nat), Con.lexA [] .bet l = some F ∧ e = .returned (.tuple #[.slice a F.length c, .bool true]) ∧ FdR w' w'.heap.size a F.length F ∧ F.length ≤ l.length ∧ F.length ≤ c) ∨ (Con.lexA [] .bet l = none ∧ e = .returned (.tuple #[.slice none 0 0, .bool false]))) ∧ Upd noBlock w w'
theorem trim_lex (F : List Con.Fd) (l : List UInt8) : Con.lexA F .bet (Lib.trimLeftB l 32) = Con.lexA F .bet l := (Con.lex_spaces F l).symm
theorem trim_len (l : List UInt8) : (Lib.trimLeftB l 32).length ≤ l.length := by
  unfold Lib.trimLeftB
  exact (List.dropWhile_sublist _).length_le
theorem trim_head (l : List UInt8) (c : UInt8) (h : (Lib.trimLeftB l 32).head? = some c) : c ≠ 32 := by
  unfold Lib.trimLeftB at h
  rintro rfl
  have := List.head?_dropWhile_not (fun x : UInt8 => x == 32) l
  rw [h] at this
  exact absurd this (by decide)
section
variable {P : Program}
theorem scope_jumpsC {a : Act} {w : World} {Q : Exit → Act → World → Prop} {c rest : Code} (l : Nat) (J : Act → World → Prop) (μ : Act → World → Nat) (hf : findLabel c l = some (Code.skip.seq rest))
    (pass : ∀ a w, J a w → rest.wp P (Exit.jump l (fun a' w' => J a' w' ∧ μ a' w' < μ a w) Q) a w)
    (first : (∀ a w, J a w → rest.wp P (Exit.jump l J Q) a w) → c.wp P (Exit.jump l J Q) a w) : (Code.scope c).wp P Q a w :=
  wp_scope_jumps l J μ hf (first fun a w hJ b k cs => by
    obtain ⟨e, a', w', hq, harr⟩ := pass a w hJ b k cs
    refine ⟨e, a', w', ?_, harr⟩
    cases e <;> first | exact hq | exact ⟨hq.1, hq.2.1⟩) (fun a w hJ => wp_seq (wp_skip (pass a w hJ)))
end
set_option maxRecDepth 100000 in
set_option maxHeartbeats 3200000 in
theorem split_any (s : ByteArray) (w : World) (hs : s.size ≤ 1048576) : Calls Tryz.prog 52 #[.string s] w (SplitP s.data.toList w) := by
  obtain ⟨i0, zz0, hi0, hz0, hz1, hz2, hz3⟩ := fldParts
  have hsl : s.data.toList.length = s.size := rfl
  have H0 : Hid (SJ w w s.data.toList s (.slice none 0 0) []) := ⟨rfl, World.ownsRow_nil _ _ _ _, by simp [hsl], (fun f hf => by cases hf), Upd.refl _ _⟩
  have HL : Hid (s.data.toList.length ≤ 1048576) := by show _ ≤ _; omega
  generalize s.data.toList = l at *
  clear hsl hs
  go_enter Tryz.func52, Tryz.ntmps52
  go_wp2
  refine scope_jumpsC 0 (fun a' wr => ∃ (q : ByteArray) (v : Value) (F : List Con.Fd) (u : Nat → Value), a' = { tmps := #[.string q, u 1, .slice none 0 0, .bool false, v, u 5, u 6, u 7, u 8, u 9, u 10, u 11, u 12, u 13, u 14, u 15, u 16, u 17, u 18, u 19, u 20, u 21, u 22, u 23, u 24, u 25, u 26, u 27, u 28, u 29, u 30, u 31, u 32, u 33, u 34], defers := [] } ∧ Hid (SJ w wr l q v F)) (fun a' _ => strZ (a'.tmps.getD 0 undef)) rfl ?_ ?_
  · rintro a' wr ⟨q, v, F, u, rfl, HJ⟩
    clear H0
    have hJ := HJ.out
    have hql : q.data.toList.length = q.size := rfl
    have hqz := hJ.len
    have hll := HL.out
    obtain ⟨T, hT⟩ : ∃ T : ByteArray, ⟨(Lib.trimLeftB q.data.toList 32).toArray⟩ = T := ⟨_, rfl⟩
    have hTd : T.data.toList = Lib.trimLeftB q.data.toList 32 := by rw [← hT]
    have hTz : T.size ≤ q.size := by
      have := trim_len q.data.toList
      rw [← hTd] at this
      have e : T.data.toList.length = T.size := rfl
      omega
    have HTR : Hid (∀ W, Calls Tryz.prog 65 #[.string q, .string ⟨#[32]⟩] W fun e w' => e = .returned (.string T) ∧ w' = W) := fun W => by
      have := Tryz.strings_TrimLeft_one q 32 (by decide) W
      rw [hT] at this
      exact this
    have hrun : Con.lexA [] .bet l = Con.lexA F .bet T.data.toList := by rw [hJ.run, hTd, trim_lex]
    have hhd := trim_head q.data.toList
    rw [← hTd] at hhd
    have HU := Lib.hid hJ.up
    have HO := Lib.hid hJ.own
    have HFT := Lib.hid hJ.fit
    have HLN := Lib.hid hJ.len
    have hTl : T.data.toList.length = T.size := rfl
    clear hTd hT hJ HJ
    cases hTT : T.data.toList with
    | nil =>
      have z0 : T.toList.isEmpty = true := by rw [Lib.toList_data, hTT]; rfl
      have HF : Hid (Con.lexA [] .bet l = some F) := by show _ = _; rw [hrun, hTT]; rfl
      obtain ⟨a, cp, hv, hFR, hcp⟩ := fd_row HO.out (fun f hf => by have := HFT.out f hf; omega)
      have HFR := Lib.hid hFR
      have HCP := Lib.hid hcp
      subst hv
      have HLF : Hid (F.length ≤ l.length) := by show _ ≤ _; omega
      clear hrun hhd hTT hFR hcp hTz hTl hqz hll hql
      go_wp2_with (go_at_call 65; (with_reducible refine (HTR.out _).mono ?_); rintro e w1 ⟨rfl, hw⟩; obtain rfl := hw.symm)
      simp only [Exit.jump]
      go_returns
      exact ⟨.inl ⟨F, a, cp, HF.out, rfl, HFR.out, HLF.out, HCP.out⟩, HU.out⟩
    | cons c r =>
      have z0 : T.toList.isEmpty = false := by rw [Lib.toList_data, hTT]; rfl
      have HFI := Lib.hid (first_any T c wr (by omega) (by rw [hTT]; rfl) (hhd c (by rw [hTT]; rfl)))
      have hnot : ∀ (x : Bool) (w : World), (Op.unary .not (.bool x)).run Tryz.prog w = .ok (.bool (!x)) w := fun _ _ => rfl
      have hTp : 0 < T.size := by rw [hTT] at hTl; simp at hTl; omega
      clear hTT hhd
      go_wp2_with (go_at_call 65; (with_reducible refine (HTR.out _).mono ?_); rintro e w1 ⟨rfl, hw⟩; obtain rfl := hw.symm)
      refine HFI.out.mono ?_
      rintro e w1 ⟨⟨f, rr, ok, rfl, h1, h2, h3⟩, hu⟩
      have h3F := h3 F
      rw [← hrun] at h3F
      have HU1 := Lib.hid (HU.out.trans hu)
      have HO1 := Lib.hid (own_row_grow HO.out hu)
      have hrl : rr.data.toList.length = rr.size := rfl
      have hf1 : f.1.size ≤ l.length := by omega
      obtain ⟨fx, fq⟩ := f
      have HF1 := Lib.hid hf1
      clear h1 h3 hu hrun hf1
      have hbad : (ok && okRest rr.data.toList) = false → Hid (Con.lexA [] .bet l = none) := fun hk => by show _ = _; rw [h3F, hk]; rfl
      have hgood : (ok && okRest rr.data.toList) = true → Hid (Con.lexA [] .bet l = Con.lexA (F ++ [(fx, fq)]) .bet rr.data.toList) := fun hk => by show _ = _; rw [h3F, hk]; rfl
      clear h3F
      cases ok with
      | false =>
        have HB := hbad rfl
        clear hbad hgood
        go_wp2
        simp only [Exit.jump]
        go_returns
        exact ⟨.inr ⟨HB.out, rfl⟩, HU1.out.alloc _⟩
      | true =>
        cases hrr : rr.data.toList with
        | nil =>
          have zr : rr.toList.isEmpty = true := by rw [Lib.toList_data, hrr]; rfl
          have zr2 : (!rr.toList.isEmpty) = false := by rw [zr]; rfl
          have HG := hgood (by rw [hrr]; rfl)
          clear hbad hgood hrr
          have HNF : Hid (∀ v2 w2, w2.ownsRow w.heap.size 148 2 v2 (F.length + 1) (fdsC F ++ [.string fx, .bool fq]) → ((w1.alloc (.cells #[.string fx, .bool fq] 148)).alloc (.cells #[.string fx, .bool fq] 148)).grownBy w2 v.ownBlock → SJ w w2 l rr v2 (F ++ [(fx, fq)])) := fun v2 w2 hO hg => by
            refine ⟨HG.out, ?_, ?_, ?_, ?_⟩
            · rw [fdsC_snoc, List.length_append, List.length_singleton]; exact hO
            · have := HLN.out; rw [List.length_append, List.length_singleton]; omega
            · intro f hf
              rcases List.mem_append.1 hf with hf | hf
              · exact HFT.out f hf
              · have : f = (fx, fq) := by simpa using hf
                rw [this]; exact HF1.out
            · exact upd_of_grown ((HU1.out.alloc _).alloc _) hg (fun k hk => .inr (own_row_base HO.out k hk).1)
          have HV : Hid (((w1.alloc (.cells #[.string fx, .bool fq] 148)).alloc (.cells #[.string fx, .bool fq] 148)).ownsRow w.heap.size 148 2 v F.length (fdsC F)) := own_row_grow HO1.out (((Upd.refl _ _).alloc _).alloc _)
          have HC2 : Hid (∀ j u, [Value.string fx, .bool fq][j]? = some u → ((w1.alloc (.cells #[.string fx, .bool fq] 148)).alloc (.cells #[.string fx, .bool fq] 148)).cell? ((⟨w1.heap.size + 1, 0, none⟩ : Addr).add j) = some u) := fun j u hu => by
            have h9 := heap_alloc_new (w1.alloc (.cells #[.string fx, .bool fq] 148)) (.cells #[.string fx, .bool fq] 148)
            rw [World.size_alloc] at h9
            rw [add_zero_addr, cell_of h9 j, ← hu]; simp
          have HO5 : Hid (∀ u ∈ [Value.string fx, .bool fq], u.oneCell' = true) := by
            intro u hu
            simp only [List.mem_cons, List.not_mem_nil, or_false] at hu
            rcases hu with rfl | rfl <;> rfl
          have HB1 : Hid (F.length + 1 ≤ maxLen ∧ (F.length + 1) * 24 ≤ 140737488355328) := by
            have := HLN.out; show _ ∧ _; unfold maxLen; omega
          have HBz : Hid (w.heap.size ≤ ((w1.alloc (.cells #[.string fx, .bool fq] 148)).alloc (.cells #[.string fx, .bool fq] 148)).heap.size) := ((HU1.out.alloc _).alloc _).size
          have HLT : Hid (rr.size < q.size) := by show _ < _; omega
          clear h2 hTl hTz hTp hrl
          go_wp2_with (at_builtin; refine wpList_append_own _ rfl (.tmp 30) (.tmp 32) 142 rfl w.heap.size 148 i0 zz0 2 24 Tryz.underlying142 hi0 hz0 hz1 hz2 hz3 (by decide) v F.length (fdsC F) rfl HV.out ⟨w1.heap.size + 1, 0, none⟩ 1 1 [.string fx, .bool fq] rfl rfl HC2.out HO5.out HB1.out.1 HB1.out.2 HBz.out ?_; intro v2 w2 hO hg _; have HN := Lib.hid (HNF.out _ _ hO hg); clear hO hg)
          go_step3
          exact ⟨rfl, sp_mk _ _ _ _ _ _ _ _ _ _ _ _ _ _ _ _ _ _ _ _ _ _ _ _ _ _ _ _ _ _ _ HN, HLT.out⟩
        | cons d r2 =>
          have zr : rr.toList.isEmpty = false := by rw [Lib.toList_data, hrr]; rfl
          have zr2 : (!rr.toList.isEmpty) = true := by rw [zr]; rfl
          have hr0 : 0 < rr.size := by rw [hrr] at hrl; simp at hrl; omega
          have hd0 : rr[0]'hr0 = d := by
            have h9 := get_data rr 0 hr0
            have h8 : rr.data.toList[0]? = some d := by rw [hrr]; rfl
            rw [h9] at h8; exact Option.some.inj h8
          by_cases h32 : d = 32
          · have e32 : ((d.toNat : Int) != 32) = false := by rw [h32]; rfl
            have HG := hgood (by rw [hrr, h32]; rfl)
            clear hbad hgood hrr h32
            have HNF : Hid (∀ v2 w2, w2.ownsRow w.heap.size 148 2 v2 (F.length + 1) (fdsC F ++ [.string fx, .bool fq]) → ((w1.alloc (.cells #[.string fx, .bool fq] 148)).alloc (.cells #[.string fx, .bool fq] 148)).grownBy w2 v.ownBlock → SJ w w2 l rr v2 (F ++ [(fx, fq)])) := fun v2 w2 hO hg => by
              refine ⟨HG.out, ?_, ?_, ?_, ?_⟩
              · rw [fdsC_snoc, List.length_append, List.length_singleton]; exact hO
              · have := HLN.out; rw [List.length_append, List.length_singleton]; omega
              · intro f hf
                rcases List.mem_append.1 hf with hf | hf
                · exact HFT.out f hf
                · have : f = (fx, fq) := by simpa using hf
                  rw [this]; exact HF1.out
              · exact upd_of_grown ((HU1.out.alloc _).alloc _) hg (fun k hk => .inr (own_row_base HO.out k hk).1)
            have HV : Hid (((w1.alloc (.cells #[.string fx, .bool fq] 148)).alloc (.cells #[.string fx, .bool fq] 148)).ownsRow w.heap.size 148 2 v F.length (fdsC F)) := own_row_grow HO1.out (((Upd.refl _ _).alloc _).alloc _)
            have HC2 : Hid (∀ j u, [Value.string fx, .bool fq][j]? = some u → ((w1.alloc (.cells #[.string fx, .bool fq] 148)).alloc (.cells #[.string fx, .bool fq] 148)).cell? ((⟨w1.heap.size + 1, 0, none⟩ : Addr).add j) = some u) := fun j u hu => by
              have h9 := heap_alloc_new (w1.alloc (.cells #[.string fx, .bool fq] 148)) (.cells #[.string fx, .bool fq] 148)
              rw [World.size_alloc] at h9
              rw [add_zero_addr, cell_of h9 j, ← hu]; simp
            have HO5 : Hid (∀ u ∈ [Value.string fx, .bool fq], u.oneCell' = true) := by
              intro u hu
              simp only [List.mem_cons, List.not_mem_nil, or_false] at hu
              rcases hu with rfl | rfl <;> rfl
            have HB1 : Hid (F.length + 1 ≤ maxLen ∧ (F.length + 1) * 24 ≤ 140737488355328) := by
              have := HLN.out; show _ ∧ _; unfold maxLen; omega
            have HBz : Hid (w.heap.size ≤ ((w1.alloc (.cells #[.string fx, .bool fq] 148)).alloc (.cells #[.string fx, .bool fq] 148)).heap.size) := ((HU1.out.alloc _).alloc _).size
            have HLT : Hid (rr.size < q.size) := by show _ < _; omega
            clear h2 hTl hTz hTp hrl
            go_wp2_with (at_builtin; refine wpList_append_own _ rfl (.tmp 30) (.tmp 32) 142 rfl w.heap.size 148 i0 zz0 2 24 Tryz.underlying142 hi0 hz0 hz1 hz2 hz3 (by decide) v F.length (fdsC F) rfl HV.out ⟨w1.heap.size + 1, 0, none⟩ 1 1 [.string fx, .bool fq] rfl rfl HC2.out HO5.out HB1.out.1 HB1.out.2 HBz.out ?_; intro v2 w2 hO hg _; have HN := Lib.hid (HNF.out _ _ hO hg); clear hO hg)
            go_step3
            exact ⟨rfl, sp_mk _ _ _ _ _ _ _ _ _ _ _ _ _ _ _ _ _ _ _ _ _ _ _ _ _ _ _ _ _ _ _ HN, HLT.out⟩
          · have e32 : ((d.toNat : Int) != 32) = true := by have := u8n h32; rw [bne_iff_ne]; exact this
            have HB := hbad (by rw [hrr]; simp [okRest, h32])
            clear hbad hgood hrr h32
            go_wp2
            simp only [Exit.jump]
            go_returns
            exact ⟨.inr ⟨HB.out, rfl⟩, HU1.out.alloc _⟩
  · intro pass
    go_wp2
    go_step3
    rename_i K Q' hK
    exact hK _ _ (pass _ _ ⟨s, .slice none 0 0, [], fun _ => undef, rfl, H0⟩)
end Go.Proofs.YthcjogigkagmdaaGreatDoor
