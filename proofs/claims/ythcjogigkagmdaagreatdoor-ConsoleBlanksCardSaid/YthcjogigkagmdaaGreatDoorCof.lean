/- isMark, isPlain; unquote, escaped's contract given. -/
import Derived.Test.YthcjogigkagmdaaGreatDoorCoe
import Derived.Test.YthcjogigkagmdaaGreatDoorRows
import Derived.Test.YthcjogigkagmdaaGreatDoorSt
import Derived.Test.YthcjogigkagmdaaGreatDoorZa
import Derived.Lib.Strings
import Derived.WalkSpells
import Derived.WalkLawsBesides
import Derived.BigQuiet
import Derived.Deep.OwnRows
import Derived.Deep.QuietTactic
import Derived.Deep.RegionHeldLaw
import Derived.Handy
import Derived.Deep.Cut
namespace Go.Proofs.YthcjogigkagmdaaGreatDoor
open Go.RowKit
set_option linter.unusedVariables false

theorem u8n {a b : UInt8} (h : ¬ a = b) : ¬ ((a.toNat : Nat) : Int) = ((b.toNat : Nat) : Int) := fun e => h (UInt8.toNat_inj.1 (by omega))
theorem isMark_any (c : UInt8) (w : World) : Calls Tryz.prog 59 #[.int .u8 (c.toNat : Int)] w fun e w' => e = .returned (.bool (Con.markB c)) ∧ w = w' := by
  by_cases h1 : c = 34
  · subst h1
    go_enter Tryz.func59, Tryz.ntmps59
    go_wp2
    go_ret
    exact ⟨rfl, rfl⟩
  · by_cases h2 : c = 92
    · subst h2
      go_enter Tryz.func59, Tryz.ntmps59
      go_wp2
      go_ret
      exact ⟨rfl, rfl⟩
    · have e1 : ((c.toNat : Int) == 34) = false := by have := u8n h1; rw [beq_eq_false_iff_ne]; exact this
      have e2 : ((c.toNat : Int) == 92) = false := by have := u8n h2; rw [beq_eq_false_iff_ne]; exact this
      have hm : Con.markB c = false := by unfold Con.markB; simp [h1, h2]
      rw [hm]
      clear hm h1 h2
      go_enter Tryz.func59, Tryz.ntmps59
      go_wp2
      go_ret
      exact ⟨rfl, rfl⟩
theorem isPlain_any (c : UInt8) (w : World) : Calls Tryz.prog 60 #[.int .u8 (c.toNat : Int)] w fun e w' => e = .returned (.bool (Con.plainB c)) ∧ w = w' := by
  have hb : ∀ x y : Bool, (decide (32 ≤ c.toNat)) = x → (decide (c.toNat ≤ 126)) = y → Con.plainB c = (x && y) := by rintro _ _ rfl rfl; rfl
  by_cases h1 : 32 ≤ c.toNat
  · by_cases h2 : c.toNat ≤ 126
    · rw [hb true true (decide_eq_true h1) (decide_eq_true h2)]
      have e1 : decide ((32 : Int) ≤ (c.toNat : Int)) = true := decide_eq_true (by omega)
      have e2 : decide ((c.toNat : Int) ≤ 126) = true := decide_eq_true (by omega)
      clear hb
      go_enter Tryz.func60, Tryz.ntmps60
      go_wp2
      go_ret
      exact ⟨rfl, rfl⟩
    · rw [hb true false (decide_eq_true h1) (decide_eq_false h2)]
      have e1 : decide ((32 : Int) ≤ (c.toNat : Int)) = true := decide_eq_true (by omega)
      have e2 : decide ((c.toNat : Int) ≤ 126) = false := decide_eq_false (by omega)
      clear hb
      go_enter Tryz.func60, Tryz.ntmps60
      go_wp2
      go_ret
      exact ⟨rfl, rfl⟩
  · rw [hb false _ (decide_eq_false h1) rfl]
    have e1 : decide ((32 : Int) ≤ (c.toNat : Int)) = false := decide_eq_false (by omega)
    clear hb
    go_enter Tryz.func60, Tryz.ntmps60
    go_wp2
    go_ret
    exact ⟨rfl, rfl⟩
theorem byteParts : ∃ i0, Tryz.prog.info? 5 = some i0 ∧ i0.zero = some (.int .u8 0) ∧ i0.size = 1 ∧ i0.bytes = 1 := by
  have h : (Tryz.prog.info? 5).map (fun i => (i.zero, i.size, i.bytes)) = some (some (.int .u8 0), 1, 1) := by kernel_rfl
  obtain ⟨i0, h1, h2⟩ := Option.map_eq_some_iff.1 h
  simp only [Prod.mk.injEq] at h2
  exact ⟨i0, h1, h2.1, h2.2.1, h2.2.2⟩
/-- what unquote answers -/
def UnqP (l : List UInt8) (w : World) (e : Ending) (w' : World) : Prop :=
  ((∃ v r : ByteArray, Con.unqA [] .n l = some (v.data.toList, r.data.toList) ∧ v.size ≤ l.length ∧ r.size ≤ l.length ∧ e = .returned (.tuple #[.string v, .string r, .bool true])) ∨ (Con.unqA [] .n l = none ∧ e = .returned (.tuple #[.string ⟨#[]⟩, .string ⟨#[]⟩, .bool false]))) ∧ Upd noBlock w w'
def strZ (v : Value) : Nat := match v with | .string q => q.size | _ => 0
/-- escaped, as unquote wants it -/
def EscC : Prop := ∀ (q : ByteArray) (w : World), q.data.toList.head? = some 92 → q.size ≤ maxLen → Calls Tryz.prog 98 #[.string q] w fun e w' => e = .returned (.tuple #[.int .u8 ((Con.escL q.data.toList).1.toNat : Int), .int .i64 ((Con.escL q.data.toList).2 : Int)]) ∧ Upd noBlock w w'
/-- what holds ahead of each round -/
structure UQ (w wr : World) (l : List UInt8) (q : ByteArray) (v : Value) (a : List UInt8) : Prop where
  run : Con.unqA [] .n l = Con.unqA a .n q.data.toList
  own : OwnB wr w.heap.size v a
  len : a.length + q.size ≤ l.length
  up : Upd noBlock w wr
theorem escL_two (t : List UInt8) : (Con.escL t).2 = 0 ∨ ((Con.escL t).2 = 2 ∧ 2 ≤ t.length) ∨ ((Con.escL t).2 = 4 ∧ 4 ≤ t.length) := by
  unfold Con.escL
  split
  · rename_i h
    simp only [Bool.and_eq_true, decide_eq_true_eq] at h
    exact .inr (.inl ⟨rfl, by omega⟩)
  split
  · exact .inl rfl
  · rename_i h
    simp only [Bool.or_eq_true, decide_eq_true_eq, not_or] at h
    unfold Con.hex2
    split
    · exact .inr (.inr ⟨rfl, by omega⟩)
    · exact .inl rfl
theorem own_baseB {w : World} {B : Nat} {v : Value} {l : List UInt8} (h : OwnB w B v l) : ∀ k, v.ownBlock = some k → B ≤ k ∧ ∃ C, w.heap[k]? = some (.cells C 5 (0, 0)) := fun k hk => by
  rcases h.2 with ⟨h1, _⟩ | ⟨g, cap, cur, rfl, hb, hg, _⟩
  · rw [h1] at hk; cases hk
  · cases hk; exact ⟨hb, cur, hg⟩
set_option maxRecDepth 100000 in
set_option maxHeartbeats 1600000 in
theorem unquote_any (HE0 : EscC) (s : ByteArray) (w : World) (hs : s.size ≤ 140737488351232) : Calls Tryz.prog 82 #[.string s] w (UnqP s.data.toList w) := by
  have hsz : s.data.toList.length = s.size := rfl
  have HE := Lib.hid HE0
  obtain ⟨i0, hi0, hz0, hz1, hz2⟩ := byteParts
  have H0 : Hid (UQ w w s.data.toList s (.slice none 0 0) []) := ⟨rfl, OwnB.nil _ _, by simp [hsz], Upd.refl _ _⟩
  have HL : Hid (s.data.toList.length ≤ 140737488351232) := by show _ ≤ _; rw [hsz]; exact hs
  generalize s.data.toList = l at *
  clear HE0 hsz hs
  go_enter Tryz.func82, Tryz.ntmps82
  go_wp2
  go_loopw [0, 5] (fun t v wr => ∃ (q : ByteArray) (a : List UInt8), t = .string q ∧ Hid (UQ w wr l q v a)) (fun t _ _ => strZ t)
  case atStart => exact ⟨s, [], rfl, H0⟩
  case round =>
    obtain ⟨q, a, rfl, HJ⟩ := hrel
    clear H0
    have hnot : ∀ (x : Bool) (w : World), (Op.unary .not (.bool x)).run Tryz.prog w = .ok (.bool (!x)) w := fun _ _ => rfl
    have hql : q.data.toList.length = q.size := rfl
    by_cases h0 : q.size = 0
    · have hq0 : q.data.toList = [] := List.eq_nil_of_length_eq_zero h0
      have z0 : q.toList.isEmpty = true := by rw [Lib.toList_data, hq0]; rfl
      have z1 : (!q.toList.isEmpty) = false := by rw [z0]; rfl
      have HF : Hid (Con.unqA [] .n l = none) := by show _ = _; rw [HJ.out.run, hq0]; rfl
      have HU : Hid (Upd noBlock w wr) := HJ.out.up
      clear h0 hq0 hql HJ
      go_wp2
      go_returns
      exact ⟨.inr ⟨HF.out, rfl⟩, HU.out⟩
    · obtain ⟨c, r, hcr⟩ : ∃ c r, q.data.toList = c :: r := by
        cases h : q.data.toList with
        | nil => rw [h] at hql; exact absurd hql.symm h0
        | cons c r => exact ⟨c, r, rfl⟩
      have z0 : q.toList.isEmpty = false := by rw [Lib.toList_data, hcr]; rfl
      have z1 : (!q.toList.isEmpty) = true := by rw [z0]; rfl
      have h0' : 0 < q.size := by omega
      have hc : q[0]'h0' = c := by
        have h9 : q.data.toList[0]? = some c := by rw [hcr]; rfl
        have h8 : q.data.toList[0]? = some (q[0]'h0') := by rw [Array.getElem?_toList]; exact Array.getElem?_eq_getElem h0'
        rw [h9] at h8; exact (Option.some.inj h8).symm
      have HP := Lib.hid (isPlain_any c)
      have hrun := HJ.out.run
      rw [hcr] at hrun
      have HCR := Lib.hid hcr
      clear hcr hql h0
      cases hp : Con.plainB c with
      | false =>
        have h34 : c ≠ 34 := by rintro rfl; revert hp; decide
        have HF : Hid (Con.unqA [] .n l = none) := by show _ = _; rw [hrun, Con.unqA, if_neg h34, hp, if_neg (by decide)]
        have HU : Hid (Upd noBlock w wr) := HJ.out.up
        rw [hp] at HP
        clear hrun HJ hp h34 HCR
        go_wp2_with (go_at_call 60; (with_reducible refine (HP.out _).mono ?_); rintro e w1 ⟨rfl, rfl⟩)
        go_returns
        exact ⟨.inr ⟨HF.out, rfl⟩, HU.out⟩
      | true =>
        rw [hp] at HP
        by_cases h34 : c = 34
        · have e34 : ((c.toNat : Int) == 34) = true := by rw [h34]; rfl
          have hJ := HJ.out
          have hqz := hJ.len
          have hlz := HL.out
          obtain ⟨x, hx⟩ : ∃ x, q.extract 1 q.size = x := ⟨_, rfl⟩
          have hxd : x.data.toList = r := by rw [← hx, Lib.extract_to_end, HCR.out]; rfl
          have HX : Hid (x.size ≤ l.length) := by
            show _ ≤ _
            rw [← hx, ByteArray.size_extract]; omega
          have HF : Hid (Con.unqA [] .n l = some (a, x.data.toList)) := by show _ = _; rw [hrun, Con.unqA, if_pos h34, hxd]
          have HU : Hid (Upd noBlock w wr) := hJ.up
          have HA : Hid (a.length ≤ l.length) := by show _ ≤ _; omega
          have t1 := hJ.own.text
          have t2 : (convert 62 9 u5).run Tryz.prog wr.drew = .ok (.string ⟨a.toArray⟩) wr.drew := (hJ.own.grow (Upd.refl _ _).drew).text
          have hz1q : 1 ≤ (q.size : Int) := by omega
          clear hrun HJ hp h34 HCR hJ hxd hqz hlz HE
          go_wp2_with (go_at_call 60; (with_reducible refine (HP.out _).mono ?_); rintro e w1 ⟨rfl, rfl⟩)
          all_goals
            go_region
            go_wp2
            go_returns
            exact ⟨.inl ⟨⟨a.toArray⟩, x, HF.out, HA.out, HX.out, rfl⟩, HU.out.drew⟩
        · have e34 : ((c.toNat : Int) == 34) = false := by have := u8n h34; rw [beq_eq_false_iff_ne]; exact this
          by_cases h92 : c = 92
          · have e92 : ((c.toNat : Int) == 92) = true := by rw [h92]; rfl
            have hJ := HJ.out
            have HO := Lib.hid hJ.own
            have HU := Lib.hid hJ.up
            have HLN := Lib.hid hJ.len
            have hh : q.data.toList.head? = some 92 := by rw [HCR.out, h92]; rfl
            have HEC := Lib.hid (HE.out q wr hh (by have := HLN.out; have := HL.out; unfold maxLen; omega))
            have hrun2 : Con.unqA [] .n l = if (Con.escL q.data.toList).2 = 0 then none else Con.unqA (a ++ [(Con.escL q.data.toList).1]) .n (q.data.toList.drop (Con.escL q.data.toList).2) := by
              rw [hJ.run, Con.unq_esc a _ hh]
            have htwo := escL_two q.data.toList
            obtain ⟨b, hb⟩ : ∃ b, (Con.escL q.data.toList).1 = b := ⟨_, rfl⟩
            obtain ⟨k, hk⟩ : ∃ k, (Con.escL q.data.toList).2 = k := ⟨_, rfl⟩
            rw [hb, hk] at HEC
            rw [hb, hk] at hrun2
            rw [hk] at htwo
            have hqln : q.data.toList.length = q.size := rfl
            rw [hqln] at htwo
            clear hrun hJ HJ h34 hp HE hh hb hk hqln
            by_cases hk0 : k = 0
            · subst hk0
              have HF : Hid (Con.unqA [] .n l = none) := by show _ = _; rw [hrun2, if_pos rfl]
              clear hrun2 htwo h92
              go_wp2_with (first
                | (go_at_call 60; (with_reducible refine (HP.out _).mono ?_); rintro e w1 ⟨rfl, rfl⟩)
                | (go_at_call 98; (with_reducible refine HEC.out.mono ?_); rintro e w1 ⟨rfl, h⟩; have U1 := Lib.hid h; clear h))
              go_returns
              exact ⟨.inr ⟨HF.out, rfl⟩, HU.out.trans U1.out⟩
            · have hk1 : 1 ≤ k ∧ k ≤ q.size := by omega
              rw [if_neg hk0] at hrun2
              have ek : ((k : Int) == 0) = false := by rw [beq_eq_false_iff_ne]; omega
              have HR2 := Lib.hid hrun2
              have HB : Hid (a.length + 1 ≤ maxLen ∧ (a.length + 1) * 1 ≤ 140737488355328) := by have := HLN.out; have := HL.out; show _ ∧ _; unfold maxLen; omega
              have H1 : Hid (∀ u ∈ [Value.int .u8 (b.toNat : Int)], u.oneCell' = true) := by intro u hu; simp at hu; subst hu; rfl
              have hz1q : (k : Int) ≤ (q.size : Int) := by omega
              have hk00 : 0 ≤ (k : Int) := by omega
              obtain ⟨x, hx⟩ : ∃ x, q.extract k q.size = x := ⟨_, rfl⟩
              have hxd : x.data.toList = q.data.toList.drop k := by rw [← hx, Lib.extract_to_end]
              have HXZ : Hid (x.size + k = q.size) := by
                show _ = _
                rw [← hx, ByteArray.size_extract]; omega
              rw [← hxd] at HR2
              have HK1 := Lib.hid hk1
              clear hrun2 htwo h92 hk0 hxd hk1
              go_wp2_with (first
                | (go_at_call 60; (with_reducible refine (HP.out _).mono ?_); rintro e w1 ⟨rfl, rfl⟩)
                | (go_at_call 98; (with_reducible refine HEC.out.mono ?_); rintro e w1 ⟨rfl, h⟩; have U1 := Lib.hid h; clear h))
              have HV : Hid (∀ W, Upd noBlock w1 W → W.ownsRow w.heap.size 5 1 u5 a.length (bc a)) := fun W h => (HO.out.grow U1.out).grow h
              have U0 : Hid (Upd noBlock w1 ((w1.alloc (.cells #[.int .u8 (b.toNat : Int)] 5)).drew)) := ((Upd.refl _ _).alloc _).drew
              have R0 : Hid (Row1 ((w1.alloc (.cells #[.int .u8 (b.toNat : Int)] 5)).drew) (w1.heap.size + 1) (some ⟨w1.heap.size, 0, none⟩) 1 [.int .u8 (b.toNat : Int)]) := (Row1.one w1 5 (.int .u8 (b.toNat : Int))).grow ((Upd.refl _ _).drew) (by simp)
              have HBz : Hid (w.heap.size ≤ ((w1.alloc (.cells #[.int .u8 (b.toNat : Int)] 5)).drew).heap.size) := ((HU.out.trans U1.out).trans U0.out).size
              have HNX : Hid (∀ v2 w2, w2.ownsRow w.heap.size 5 1 v2 (a.length + 1) (bc a ++ [.int .u8 (b.toNat : Int)]) → ((w1.alloc (.cells #[.int .u8 (b.toNat : Int)] 5)).drew).grownBy w2 u5.ownBlock → UQ w w2 l x v2 (a ++ [b])) := fun v2 w2 hO hg => by
                refine ⟨HR2.out, OwnB.join (k := [b]) rfl rfl hO, ?_, ?_⟩
                · have := HLN.out; have := HXZ.out; have := HK1.out; rw [List.length_append, List.length_singleton]; omega
                · exact upd_of_grown ((HU.out.trans U1.out).trans U0.out) hg (fun k hk => .inr (own_baseB HO.out k hk).1)
              go_region_law (refine step_append_vals rfl (.tmp 33) (.tmp 35) 62 rfl w.heap.size 5 i0 (.int .u8 0) 1 Tryz.underlying62 hi0 hz0 hz1 hz2 rfl _ a.length (bc a) rfl (HV.out _ U0.out) _ _ 1 _ [.int .u8 (b.toNat : Int)] rfl R0.out H1.out HB.out.1 HB.out.2 HBz.out ?_; intro v2 w2 hO hg; have HN := Lib.hid (HNX.out _ _ hO hg); clear hO hg)
              go_wp2_with fail
              go_roundw
              case rel => (repeat apply Exists.intro); exact ⟨⟨x, a ++ [b], rfl, HN⟩, rfl⟩
              case measure => have := HXZ.out; have := HK1.out; show x.size < q.size; omega
          · have e92 : ((c.toNat : Int) == 92) = false := by have := u8n h92; rw [beq_eq_false_iff_ne]; exact this
            have hrun2 : Con.unqA [] .n l = Con.unqA (a ++ [c]) .n r := by rw [hrun, Con.unqA, if_neg h34, hp, if_pos rfl, if_neg h92]
            have hJ := HJ.out
            have HO := Lib.hid hJ.own
            have HU := Lib.hid hJ.up
            have HLN := Lib.hid hJ.len
            have HR2 := Lib.hid hrun2
            clear hrun hrun2 hJ HJ h92 h34 hp HE
            go_wp2_with (go_at_call 60; (with_reducible refine (HP.out _).mono ?_); rintro e w1 ⟨rfl, rfl⟩)
            have HV : Hid (∀ W, Upd noBlock wr W → W.ownsRow w.heap.size 5 1 u5 a.length (bc a)) := fun W h => HO.out.grow h
            have U0 : Hid (Upd noBlock wr ((wr.alloc (.cells #[.int .u8 (c.toNat : Int)] 5)).drew)) := ((Upd.refl _ _).alloc _).drew
            have R0 : Hid (Row1 ((wr.alloc (.cells #[.int .u8 (c.toNat : Int)] 5)).drew) (wr.heap.size + 1) (some ⟨wr.heap.size, 0, none⟩) 1 [.int .u8 (c.toNat : Int)]) := (Row1.one wr 5 (.int .u8 (c.toNat : Int))).grow ((Upd.refl _ _).drew) (by simp)
            have HB : Hid (a.length + 1 ≤ maxLen ∧ (a.length + 1) * 1 ≤ 140737488355328) := by have := HLN.out; have := HL.out; show _ ∧ _; unfold maxLen; omega
            have HBz : Hid (w.heap.size ≤ ((wr.alloc (.cells #[.int .u8 (c.toNat : Int)] 5)).drew).heap.size) := (HU.out.trans U0.out).size
            have H1 : Hid (∀ u ∈ [Value.int .u8 (c.toNat : Int)], u.oneCell' = true) := by intro u hu; simp at hu; subst hu; rfl
            have hz1q : 1 ≤ (q.size : Int) := by omega
            obtain ⟨x, hx⟩ : ∃ x, q.extract 1 q.size = x := ⟨_, rfl⟩
            have hxd : x.data.toList = r := by rw [← hx, Lib.extract_to_end, HCR.out]; rfl
            have HXZ : Hid (x.size + 1 = q.size) := by
              show _ = _
              rw [← hx, ByteArray.size_extract]; omega
            have HNX : Hid (∀ v2 w2, w2.ownsRow w.heap.size 5 1 v2 (a.length + 1) (bc a ++ [.int .u8 (c.toNat : Int)]) → ((wr.alloc (.cells #[.int .u8 (c.toNat : Int)] 5)).drew).grownBy w2 u5.ownBlock → UQ w w2 l x v2 (a ++ [c])) := fun v2 w2 hO hg => by
              refine ⟨by rw [hxd]; exact HR2.out, OwnB.join (k := [c]) rfl rfl hO, ?_, ?_⟩
              · have := HLN.out; have := HXZ.out; rw [List.length_append, List.length_singleton]; omega
              · exact upd_of_grown (HU.out.trans U0.out) hg (fun k hk => .inr (own_baseB HO.out k hk).1)
            clear hxd
            go_region_law (refine step_append_vals rfl (.tmp 33) (.tmp 35) 62 rfl w.heap.size 5 i0 (.int .u8 0) 1 Tryz.underlying62 hi0 hz0 hz1 hz2 rfl _ a.length (bc a) rfl (HV.out _ U0.out) _ _ 1 _ [.int .u8 (c.toNat : Int)] rfl R0.out H1.out HB.out.1 HB.out.2 HBz.out ?_; intro v2 w2 hO hg; have HN := Lib.hid (HNX.out _ _ hO hg); clear hO hg)
            go_wp2_with fail
            go_roundw
            case rel => (repeat apply Exists.intro); exact ⟨⟨x, a ++ [c], rfl, HN⟩, rfl⟩
            case measure => have := HXZ.out; show x.size < q.size; omega
end Go.Proofs.YthcjogigkagmdaaGreatDoor
