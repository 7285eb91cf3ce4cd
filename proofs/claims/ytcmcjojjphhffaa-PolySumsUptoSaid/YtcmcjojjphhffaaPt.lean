/- The law PolySums, walked, where the lists are no longer than 1048576. -/
import Derived.Test.YtcmcjojjphhffaaPk
import Derived.Test.YtcmcjojjphhffaaPl
import Derived.LoopN
namespace Go.Proofs.Ytcmcjojjphhffaa
open Go.RowKit Pm
attribute [local irreducible] Pm.exps rm pmod pmul

theorem Ints.below {w : World} {B n : Nat} {a : Option Addr} {xs : List Int} (h : Ints w B a n xs) : ∀ g off, 0 < n → a = some ⟨g, off, none⟩ → g < B := fun g off h0 e => by
  obtain ⟨g', off', e', hB, _⟩ := h.2 h0
  rw [e] at e'
  have : g = g' ∧ off = off' := by simpa using e'
  omega
theorem Ints.store {w : World} {B n g i : Nat} {a : Option Addr} {xs : List Int} {v : Value} (h : Ints w B a n xs) (hne : ∀ g' off, 0 < n → a = some ⟨g', off, none⟩ → ¬ g' = g) : Ints (w.setCell ⟨g, i, none⟩ v) B a n xs := by
  refine ⟨h.1, fun h0 => ?_⟩
  obtain ⟨g', off, rfl, hB, hc⟩ := h.2 h0
  refine ⟨g', off, rfl, hB, fun j hj => ?_⟩
  rw [World.cell?_of_block (Below.heap_setCell w _ v g' (hne g' off h0 rfl))]
  exact hc j hj
section
variable {P : Program} (w : World)
theorem wpList_wanted {ops : Array Oper} {rest : List Oper} {o : Oper} {a : Act} {w : World} {Q : Exit → Act → World → Prop} (hw : Region.wanted o (yielded ops a.tmps) = true)
    (h : ∀ K : Act → World → Prop, (∀ a w, wpList P ops Q rest a w → K a w) → o.wp P a w K Q) : wpList P ops Q (o :: rest) a w :=
  wpList_step fun K hK => by rw [if_pos hw]; exact h K hK
theorem wpList_copy_ints_g {ops : Array Oper} {rest : List Oper} {o : Oper} {a : Act} {Q : Exit → Act → World → Prop} (hgd : Region.wanted o (yielded ops a.tmps) = true) (s x : Operand) (t tx : TypeId)
    (ho : o.op = .call { callee := .builtin .append, args := #[s, x], argTypes := #[t, tx] })
    (e : TypeId) (i : TypeInfo) (z : Value) (ht : P.underlying t = some (.slice e)) (htx : P.underlying tx = some (.slice e)) (hi : P.info? e = some i) (hz : i.zero = some z)
    (hsize : i.size = 1) (hby : i.bytes = 8) (hzs : z.cells.size = 1) (base g : Nat) (hbase : base ≤ g) (hg : w.heap[g]? = some (.cells #[] e (0, 0))) (hs : a.eval s = .slice (some ⟨g, 0, none⟩) 0 0)
    (B : Nat) (A : Option Addr) (m c : Nat) (xs : List Int) (hx : a.eval x = .slice A m c) (hr : Ints w B A m xs) (hm : m ≤ maxLen) (hbytes : m * 8 ≤ 140737488355328)
    (h : ∀ v' w', w'.ownsRow base e 1 v' m (vals xs) → Upd noBlock w w' → wpList P ops Q rest (a.put o.dst v') w') : wpList P ops Q (o :: rest) a w :=
  wpList_wanted hgd fun _ hK => by
    obtain ⟨v', w', hrun, h2, h3⟩ := run_copy_ints (P := P) w t tx o.type e i z ht htx hi hz hsize hby hzs base g hbase hg B A m c xs hr hm hbytes
    unfold Oper.wp execOp
    simp only [ho, resolve, invoke, builtin, Sem.run_bind, Sem.run_pure, Result.andThen_ok, List.map_toArray, List.map_cons, List.map_nil, hs, hx, hrun]
    exact hK _ _ (h v' w' h2 h3)
theorem wpList_append_ints_g {ops : Array Oper} {rest : List Oper} {o : Oper} {a : Act} {Q : Exit → Act → World → Prop} (hgd : Region.wanted o (yielded ops a.tmps) = true) (s x : Operand) (t : TypeId)
    (ho : o.op = .call { callee := .builtin .append, args := #[s, x], argTypes := #[t, t] })
    (base : Nat) (e : TypeId) (i : TypeInfo) (z : Value) (ht : P.underlying t = some (.slice e)) (hi : P.info? e = some i) (hz : i.zero = some z)
    (hsize : i.size = 1) (hby : i.bytes = 8) (hzs : z.cells.size = 1)
    (v : Value) (n : Nat) (ys : List Value) (hs : a.eval s = v) (hown : w.ownsRow base e 1 v n ys)
    (B : Nat) (A : Option Addr) (m c : Nat) (xs : List Int) (hx : a.eval x = .slice A m c) (hr : Ints w B A m xs)
    (h63 : n + m ≤ maxLen) (hbytes : (n + m) * 8 ≤ 140737488355328) (hbase : base ≤ w.heap.size)
    (h : ∀ v' w', w'.ownsRow base e 1 v' (n + m) (ys ++ vals xs) → w.grownBy w' v.ownBlock → (v'.ownBlock = v.ownBlock ∨ v'.ownBlock = some w.heap.size) → wpList P ops Q rest (a.put o.dst v') w') : wpList P ops Q (o :: rest) a w :=
  wpList_wanted hgd fun _ hK => wp_append_ints w s x t ho base e i z ht hi hz hsize hby hzs v n ys hs hown B A m c xs hx hr h63 hbytes hbase fun v' w' h2 h3 h4 => hK _ _ (h v' w' h2 h3 h4)
end
def OneRow (w : World) (p : Option Addr) (n : Nat) : Prop := 0 < n → ∃ g o cs, p = some ⟨g, o, none⟩ ∧ w.heap[g]? = some (.cells cs 3 (0, 0)) ∧ o + n ≤ cs.size
theorem OneRow.next {w w' : World} {p : Option Addr} {n : Nat} (h : OneRow w p n) (hu : Upd noBlock w w') : OneRow w' p n := fun h0 => by
  obtain ⟨g, o, cs, e, hg, hs⟩ := h h0
  exact ⟨g, o, cs, e, (hu.block g (lt_of_block hg) (fun h => h)).trans hg, hs⟩
theorem one_row {w : World} {B n : Nat} {p : Option Addr} {xs : List Int} (h : Ints w B p n xs) (hb : ∀ g, p.map Addr.block = some g → ∃ cs, w.heap[g]? = some (.cells cs 3 (0, 0))) : OneRow w p n := fun h0 => by
  obtain ⟨g, o, rfl, _, hc⟩ := h.2 h0
  obtain ⟨cs, hcs⟩ := hb g rfl
  refine ⟨g, o, cs, rfl, hcs, ?_⟩
  have h1 := hc (n - 1) (by omega)
  rw [cell_of hcs] at h1
  have := (Array.getElem?_eq_some_iff.1 h1).1
  omega
theorem OneRow.at {w : World} {n g o : Nat} (h : OneRow w (some ⟨g, o, none⟩) n) (k : Nat) (hk : k < n) : (∃ v, w.cell? ⟨g, o + k, none⟩ = some v) ∧ w.frozen? ⟨g, o + k, none⟩ = false ∧ ∀ v, OneRow (w.setCell ⟨g, o + k, none⟩ v) (some ⟨g, o, none⟩) n := by
  obtain ⟨g', o', cs, e, hg, hs⟩ := h (by omega)
  obtain ⟨rfl, rfl⟩ : g = g' ∧ o = o' := by simpa using e
  refine ⟨⟨cs[o + k]'(by omega), by rw [cell_of hg, Array.getElem?_eq_getElem (by omega)]⟩, free_of hg _, fun v _ => ⟨g, o, _, rfl, block_set hg v, by rw [Array.size_setIfInBounds]; exact hs⟩⟩
theorem vals_append (a b : List Int) : vals (a ++ b) = vals a ++ vals b := by simp [vals]

set_option maxRecDepth 20000 in
set_option maxHeartbeats 3200000 in
theorem polySums_walk (a0 : Option Addr) (len0 cap0 : Nat) (z0 : List Int) (a1 : Option Addr) (len1 cap1 : Nat) (z1 : List Int) (w : World)
    (w0 : IsRow .i64 w a0 len0 cap0 z0) (s0 : cap0 ≤ 1048576) (w1 : IsRow .i64 w a1 len1 cap1 z1) (s1 : cap1 ≤ 1048576) :
    Calls Try.prog 3 #[.slice a0 len0 cap0, .slice a1 len1 cap1] w fun e w' => e = .returned (.bool true) ∧ Below w.heap.size w w' := by
  have hnot : ∀ (x : Bool) (w : World), (Op.unary .not (.bool x)).run Try.prog w = .ok (.bool (!x)) w := fun _ _ => rfl
  obtain ⟨i0, hi0, hz0, hz1, hz2⟩ := intParts2
  have l0 := row_len w0
  have l1 := row_len w1
  have LA0 := Lib.hid w0.ints.1
  have LB0 := Lib.hid w1.ints.1
  have LM0 := Lib.hid w0.ints.2
  have LM1 := Lib.hid w1.ints.2
  have HU0 : Hid (Upd noBlock w w) := Upd.refl _ _
  generalize z0.take len0 = x0 at LA0
  generalize z1.take len1 = x1 at LB0
  obtain ⟨n1, HN1⟩ : ∃ n1, Hid ((exps (gat x0)).length = n1) := ⟨_, rfl⟩
  clear w0 w1
  go_enter Try.func3, Try.ntmps3
  go_wp2_with fail
  refine (speaks2_any _).mono ?_
  rintro e v1 ⟨rfl, hu⟩
  have LA1 := Lib.hid (LA0.out.next hu)
  have LB1 := Lib.hid (LB0.out.next hu)
  have HU1 := Lib.hid (HU0.out.trans hu)
  clear hu HU0 LA0 LB0
  go_wp2_with fail
  refine (copied_any a0 len0 cap0 _ x0 _ LA1.out (Nat.le_refl _) (by omega)).mono ?_
  rintro e v2 ⟨r2, rfl, ho, hu⟩
  obtain ⟨p2, c2, rfl, hi, m2, _⟩ := own_ints ho
  have CA2 := Lib.hid hi
  clear ho hi
  have LA2 := Lib.hid (LA1.out.next hu)
  have LB2 := Lib.hid (LB1.out.next hu)
  have HU2 := Lib.hid (HU1.out.trans hu)
  clear hu HU1 LA1 LB1
  go_wp2_with fail
  refine (copied_any a1 len1 cap1 _ x1 _ LB2.out (Nat.le_refl _) (by omega)).mono ?_
  rintro e v3 ⟨r3, rfl, ho, hu⟩
  obtain ⟨p3, c3, rfl, hi, m3, _⟩ := own_ints ho
  have CB3 := Lib.hid hi
  clear ho hi
  have LA3 := Lib.hid (LA2.out.next hu)
  have LB3 := Lib.hid (LB2.out.next hu)
  have CA3 := Lib.hid (CA2.out.next hu)
  have HU3 := Lib.hid (HU2.out.trans hu)
  clear hu HU2 LA2 LB2 CA2
  go_wp2_with fail
  refine (of_any p2 len0 c2 _ x0 _ CA3.out (Nat.le_refl _) m2).mono ?_
  rintro e v4 ⟨r4, rfl, hv, hu⟩
  obtain ⟨p4, c4, rfl, hi, m4, hbo⟩ := own_ints hv.1
  rw [HN1.out] at hi
  rw [HN1.out] at m4
  rw [HN1.out]
  have HOB := Lib.hid hbo
  have ON4 := Lib.hid hi
  have OB4 := Lib.hid (one_row hi (fun g e => (hbo g e).2.2.2))
  have FA := Lib.hid (LA3.out.below)
  have FB := Lib.hid (LB3.out.below)
  have FC := Lib.hid (CA3.out.below)
  have FD := Lib.hid (CB3.out.below)
  have HSO := Lib.hid HU3.out.size
  clear hv hi hbo
  have LA4 := Lib.hid (LA3.out.next hu)
  have LB4 := Lib.hid (LB3.out.next hu)
  have CA4 := Lib.hid (CA3.out.next hu)
  have CB4 := Lib.hid (CB3.out.next hu)
  have HU4 := Lib.hid (HU3.out.trans hu)
  clear hu HU3 LA3 LB3 CA3 CB3
  go_wp2_with fail
  refine (add2_any p2 len0 c2 _ x0 p3 len1 c3 _ x1 _ CA4.out (Nat.le_refl _) m2 CB4.out (Nat.le_refl _) m3).mono ?_
  rintro e v5 ⟨r5, rfl, hv, hu⟩
  obtain ⟨p5, c5, rfl, hi, m5, hbs⟩ := own_ints hv.1
  have HSB := Lib.hid hbs
  have SU5 := Lib.hid hi
  clear hv hi hbs
  have LA5 := Lib.hid (LA4.out.next hu)
  have LB5 := Lib.hid (LB4.out.next hu)
  have CA5 := Lib.hid (CA4.out.next hu)
  have CB5 := Lib.hid (CB4.out.next hu)
  have ON5 := Lib.hid (ON4.out.next hu)
  have OB5 := Lib.hid (OB4.out.next hu)
  have HU5 := Lib.hid (HU4.out.trans hu)
  clear hu HU4 LA4 LB4 CA4 CB4 ON4 OB4
  go_wp2_with fail
  refine (rBits_any a0 len0 cap0 _ x0 _ LA5.out (Nat.le_refl _) LM0.out).mono ?_
  rintro e v6 ⟨rfl, hb, hu⟩
  have HBT6 := Lib.hid hb
  clear hb
  have LA6 := Lib.hid (LA5.out.next hu)
  have LB6 := Lib.hid (LB5.out.next hu)
  have CA6 := Lib.hid (CA5.out.next hu)
  have CB6 := Lib.hid (CB5.out.next hu)
  have ON6 := Lib.hid (ON5.out.next hu)
  have OB6 := Lib.hid (OB5.out.next hu)
  have SU6 := Lib.hid (SU5.out.next hu)
  have HU6 := Lib.hid (HU5.out.trans hu)
  clear hu HU5 LA5 LB5 CA5 CB5 ON5 OB5 SU5
  go_wp2_with fail
  refine (rList_any v5.heap.size (gat x0) _ HBT6.out (gat_lt x0)).mono ?_
  rintro e v7 ⟨r7, rfl, hv, hu⟩
  obtain ⟨p7, c7, rfl, hi, m7, _⟩ := own_ints hv.1
  rw [HN1.out] at hi m7
  rw [HN1.out]
  have L17 := Lib.hid hi
  clear hv hi HBT6
  have LA7 := Lib.hid (LA6.out.next hu)
  have LB7 := Lib.hid (LB6.out.next hu)
  have CA7 := Lib.hid (CA6.out.next hu)
  have CB7 := Lib.hid (CB6.out.next hu)
  have ON7 := Lib.hid (ON6.out.next hu)
  have OB7 := Lib.hid (OB6.out.next hu)
  have SU7 := Lib.hid (SU6.out.next hu)
  have HU7 := Lib.hid (HU6.out.trans hu)
  clear hu HU6 LA6 LB6 CA6 CB6 ON6 OB6 SU6
  go_wp2_with fail
  refine (same_yes p4 n1 c4 _ p7 c7 _ _ _ ON7.out L17.out m4).mono ?_
  rintro e v8 ⟨rfl, hu⟩
  have LA8 := Lib.hid (LA7.out.next hu)
  have LB8 := Lib.hid (LB7.out.next hu)
  have CA8 := Lib.hid (CA7.out.next hu)
  have CB8 := Lib.hid (CB7.out.next hu)
  have ON8 := Lib.hid (ON7.out.next hu)
  have OB8 := Lib.hid (OB7.out.next hu)
  have SU8 := Lib.hid (SU7.out.next hu)
  have L18 := Lib.hid (L17.out.next hu)
  have HU8 := Lib.hid (HU7.out.trans hu)
  clear hu HU7 LA7 LB7 CA7 CB7 ON7 OB7 SU7 L17
  clear L18
  have HG0 := Lib.hid (heap_alloc_new v8 (.cells #[] 3))
  have hu : Upd noBlock v8 (v8.alloc (.cells #[] 3)) := (Upd.refl noBlock v8).alloc _
  have LA90 := Lib.hid (LA8.out.next hu)
  have LB90 := Lib.hid (LB8.out.next hu)
  have HV90 := Lib.hid hu
  clear hu
  go_wp2_with (first | (refine wpList_copy_ints_g _ (by rfl) (.tmp 29) (.tmp 30) _ _ rfl 3 i0 _ Try.underlying22 Try.underlying22 hi0 hz0 hz1 hz2 rfl v8.heap.size v8.heap.size (Nat.le_refl _) HG0.out rfl _ a0 len0 cap0 x0 rfl LA90.out (by unfold maxLen; omega) (by omega) ?_; intro va w91 hv91 hu91; have HO91 := Lib.hid hv91; have HU91 := Lib.hid (HV90.out.trans hu91); have LB91 := Lib.hid (LB90.out.grow hu91 (Nat.le_refl _)); clear hv91 hu91) | (refine wpList_append_ints_g _ (by rfl) (.tmp 31) (.tmp 32) _ rfl v8.heap.size 3 i0 _ Try.underlying22 hi0 hz0 hz1 hz2 rfl _ len0 (vals x0) rfl HO91.out _ a1 len1 cap1 x1 rfl LB91.out (by unfold maxLen; omega) (by omega) HU91.out.size ?_; intro vb w92 hv92 hg92 _; have HO92 := Lib.hid hv92; have HU92 := Lib.hid (HU91.out.grownOwn hg92 (fun k hk => (HO91.out.lt k hk).1)); clear hv92 hg92))
  rw [← vals_append] at HO92
  obtain ⟨pz, cz, rfl, hz92, mz, _⟩ := own_ints HO92.out
  have hu := HU92.out
  have Z9 := Lib.hid hz92
  clear hz92 HO92 HU92 HO91 HU91 LB91 LB90 LA90 HV90 HG0
  obtain ⟨v9, rfl⟩ : ∃ x, x = w92 := ⟨_, rfl⟩
  have LA9 := Lib.hid (LA8.out.next hu)
  have LB9 := Lib.hid (LB8.out.next hu)
  have CA9 := Lib.hid (CA8.out.next hu)
  have CB9 := Lib.hid (CB8.out.next hu)
  have ON9 := Lib.hid (ON8.out.next hu)
  have OB9 := Lib.hid (OB8.out.next hu)
  have SU9 := Lib.hid (SU8.out.next hu)
  have HU9 := Lib.hid (HU8.out.trans hu)
  clear hu HU8 LA8 LB8 CA8 CB8 ON8 OB8 SU8
  refine (rBits_any pz (len0 + len1) cz _ (x0 ++ x1) _ Z9.out (Nat.le_refl _) mz).mono ?_
  rintro e v10 ⟨rfl, hb, hu⟩
  have HBT10 := Lib.hid hb
  clear hb
  have LA10 := Lib.hid (LA9.out.next hu)
  have LB10 := Lib.hid (LB9.out.next hu)
  have CA10 := Lib.hid (CA9.out.next hu)
  have CB10 := Lib.hid (CB9.out.next hu)
  have ON10 := Lib.hid (ON9.out.next hu)
  have OB10 := Lib.hid (OB9.out.next hu)
  have SU10 := Lib.hid (SU9.out.next hu)
  have Z10 := Lib.hid (Z9.out.next hu)
  have HU10 := Lib.hid (HU9.out.trans hu)
  clear hu HU9 LA9 LB9 CA9 CB9 ON9 OB9 SU9 Z9
  clear Z10
  go_wp2_with fail
  refine (rList_any v9.heap.size (gat (x0 ++ x1)) _ HBT10.out (gat_lt _)).mono ?_
  rintro e v11 ⟨r11, rfl, hv, hu⟩
  rw [gat_append] at hv
  obtain ⟨p11, c11, rfl, hi, m11, _⟩ := own_ints hv.1
  have L211 := Lib.hid hi
  clear hv hi HBT10
  have LA11 := Lib.hid (LA10.out.next hu)
  have LB11 := Lib.hid (LB10.out.next hu)
  have CA11 := Lib.hid (CA10.out.next hu)
  have CB11 := Lib.hid (CB10.out.next hu)
  have ON11 := Lib.hid (ON10.out.next hu)
  have OB11 := Lib.hid (OB10.out.next hu)
  have SU11 := Lib.hid (SU10.out.next hu)
  have HU11 := Lib.hid (HU10.out.trans hu)
  clear hu HU10 LA10 LB10 CA10 CB10 ON10 OB10 SU10
  go_wp2_with fail
  refine (same_yes p5 _ c5 _ p11 c11 _ _ _ SU11.out L211.out m5).mono ?_
  rintro e v12 ⟨rfl, hu⟩
  have LA12 := Lib.hid (LA11.out.next hu)
  have LB12 := Lib.hid (LB11.out.next hu)
  have CA12 := Lib.hid (CA11.out.next hu)
  have CB12 := Lib.hid (CB11.out.next hu)
  have ON12 := Lib.hid (ON11.out.next hu)
  have OB12 := Lib.hid (OB11.out.next hu)
  have SU12 := Lib.hid (SU11.out.next hu)
  have L212 := Lib.hid (L211.out.next hu)
  have HU12 := Lib.hid (HU11.out.trans hu)
  clear hu HU11 LA11 LB11 CA11 CB11 ON11 OB11 SU11 L211
  go_wp2_with fail
  clear L212
  rcases Nat.eq_zero_or_pos n1 with h10 | h10
  · subst h10
    clear HOB HSB FA FB FC FD HSO
    refine wp_loop_rounds 1 ?_
    rw [rounds_succ]
    go_wp2_with fail
    refine (same_yes p2 len0 c2 _ a0 cap0 _ x0 _ CA12.out LA12.out m2).mono ?_
    rintro e v13 ⟨rfl, hu⟩
    have LA13 := Lib.hid (LA12.out.next hu)
    have LB13 := Lib.hid (LB12.out.next hu)
    have CA13 := Lib.hid (CA12.out.next hu)
    have CB13 := Lib.hid (CB12.out.next hu)
    have ON13 := Lib.hid (ON12.out.next hu)
    have OB13 := Lib.hid (OB12.out.next hu)
    have SU13 := Lib.hid (SU12.out.next hu)
    have HU13 := Lib.hid (HU12.out.trans hu)
    clear hu HU12 LA12 LB12 CA12 CB12 ON12 OB12 SU12
    go_wp2_with fail
    refine (same_yes p3 len1 c3 _ a1 cap1 _ x1 _ CB13.out LB13.out m3).mono ?_
    rintro e v14 ⟨rfl, hu⟩
    have LA14 := Lib.hid (LA13.out.next hu)
    have LB14 := Lib.hid (LB13.out.next hu)
    have CA14 := Lib.hid (CA13.out.next hu)
    have CB14 := Lib.hid (CB13.out.next hu)
    have ON14 := Lib.hid (ON13.out.next hu)
    have OB14 := Lib.hid (OB13.out.next hu)
    have SU14 := Lib.hid (SU13.out.next hu)
    have HU14 := Lib.hid (HU13.out.trans hu)
    clear hu HU13 LA13 LB13 CA13 CB13 ON13 OB13 SU13
    go_wp2_with fail
    refine (add2_any p2 len0 c2 _ x0 p3 len1 c3 _ x1 _ CA14.out (Nat.le_refl _) m2 CB14.out (Nat.le_refl _) m3).mono ?_
    rintro e v15 ⟨r15, rfl, hv, hu⟩
    obtain ⟨p15, c15, rfl, hi, m15, _⟩ := own_ints hv.1
    have S215 := Lib.hid hi
    clear hv hi
    have LA15 := Lib.hid (LA14.out.next hu)
    have LB15 := Lib.hid (LB14.out.next hu)
    have CA15 := Lib.hid (CA14.out.next hu)
    have CB15 := Lib.hid (CB14.out.next hu)
    have ON15 := Lib.hid (ON14.out.next hu)
    have OB15 := Lib.hid (OB14.out.next hu)
    have SU15 := Lib.hid (SU14.out.next hu)
    have HU15 := Lib.hid (HU14.out.trans hu)
    clear hu HU14 LA14 LB14 CA14 CB14 ON14 OB14 SU14
    go_wp2_with fail
    refine (same_yes p15 _ c15 _ p5 c5 _ _ _ S215.out SU15.out m15).mono ?_
    rintro e v16 ⟨rfl, hu⟩
    have LA16 := Lib.hid (LA15.out.next hu)
    have LB16 := Lib.hid (LB15.out.next hu)
    have CA16 := Lib.hid (CA15.out.next hu)
    have CB16 := Lib.hid (CB15.out.next hu)
    have ON16 := Lib.hid (ON15.out.next hu)
    have OB16 := Lib.hid (OB15.out.next hu)
    have SU16 := Lib.hid (SU15.out.next hu)
    have S216 := Lib.hid (S215.out.next hu)
    have HU16 := Lib.hid (HU15.out.trans hu)
    clear hu HU15 LA15 LB15 CA15 CB15 ON15 OB15 SU15 S215
    go_wp2_with fail
    go_ret
    exact ⟨rfl, upd_ends HU16.out⟩
  · have hn0 := h10
    obtain ⟨go, oo, rfl, _, _⟩ := ON12.out.cell h10
    have hob := HOB.out go rfl
    have HO1 : Hid (go = go) := rfl
    have HFA : Hid (∀ g' off, 0 < len0 → a0 = some ⟨g', off, none⟩ → ¬ g' = go) := fun g' off h e => by have := FA.out g' off h e; have := hob.1; omega
    have HFB : Hid (∀ g' off, 0 < len1 → a1 = some ⟨g', off, none⟩ → ¬ g' = go) := fun g' off h e => by have := FB.out g' off h e; have := hob.1; omega
    have HFC : Hid (∀ g' off, 0 < len0 → p2 = some ⟨g', off, none⟩ → ¬ g' = go) := fun g' off h e => by have := FC.out g' off h e; have := hob.1; omega
    have HFD : Hid (∀ g' off, 0 < len1 → p3 = some ⟨g', off, none⟩ → ¬ g' = go) := fun g' off h e => by have := FD.out g' off h e; have := hob.1; omega
    have HFS : Hid (∀ g' off, 0 < (exps (gat x0 ^^^ gat x1)).length → p5 = some ⟨g', off, none⟩ → ¬ g' = go) := fun g' off _ e => by have := (HSB.out g' (by rw [e]; rfl)).1; have := hob.2.1; omega
    have HGO : Hid (w.heap.size ≤ go) := Nat.le_trans HSO.out hob.1
    have hn19 : n1 ≤ 9223372036854775807 := by unfold maxLen at m4; omega
    go_loopw [9] (fun i wr => ∃ k : Nat, k ≤ n1 ∧ i = .int .i64 (k : Int) ∧ Hid (Ints wr wr.heap.size a0 len0 x0) ∧ Hid (Ints wr wr.heap.size a1 len1 x1) ∧ Hid (Ints wr wr.heap.size p2 len0 x0) ∧ Hid (Ints wr wr.heap.size p3 len1 x1) ∧ Hid (Ints wr wr.heap.size p5 (exps (gat x0 ^^^ gat x1)).length (exps (gat x0 ^^^ gat x1))) ∧ Hid (OneRow wr (some ⟨go, oo, none⟩) n1) ∧ Hid (Upd noBlock w wr)) (fun i _ => n1 - (intOf i).toNat)
    case atStart => exact ⟨0, Nat.zero_le _, rfl, LA12, LB12, CA12, CB12, SU12, OB12, HU12⟩
    case round =>
      clear LA12 LB12 CA12 CB12 ON12 OB12 SU12 HU12
      obtain ⟨k, hk, rfl, LA50, LB50, CA50, CB50, SU50, OB50, HU50⟩ := hrel
      by_cases h0 : k < n1
      · obtain ⟨⟨vv, c1⟩, f1, hset⟩ := OB50.out.at k h0
        have OB51 := Lib.hid (hset (.int .i64 (-3)))
        have LA51 := Lib.hid (LA50.out.store (i := oo + k) (v := .int .i64 (-3)) HFA.out)
        have LB51 := Lib.hid (LB50.out.store (i := oo + k) (v := .int .i64 (-3)) HFB.out)
        have CA51 := Lib.hid (CA50.out.store (i := oo + k) (v := .int .i64 (-3)) HFC.out)
        have CB51 := Lib.hid (CB50.out.store (i := oo + k) (v := .int .i64 (-3)) HFD.out)
        have SU51 := Lib.hid (SU50.out.store (i := oo + k) (v := .int .i64 (-3)) HFS.out)
        have HU51 : Hid (Upd noBlock w (wr.setCell ⟨go, oo + k, none⟩ (.int .i64 (-3)))) := HU50.out.setCell (.inr HGO.out) _
        clear hset LA50 LB50 CA50 CB50 SU50 OB50 HU50
        go_wp2
        go_roundw
        case rel => exact ⟨k + 1, by omega, by go_num, LA51.out.more (by simp), LB51.out.more (by simp), CA51.out.more (by simp), CB51.out.more (by simp), SU51.out.more (by simp), OB51, HU51⟩
        case measure => simp [intOf]; omega
      · obtain rfl : k = n1 := by omega
        clear hk h0 OB50
        go_wp2_with fail
        refine (same_yes p2 len0 c2 _ a0 cap0 _ x0 _ CA50.out LA50.out m2).mono ?_
        rintro e v81 ⟨rfl, hu⟩
        have LA51 := Lib.hid (LA50.out.next hu)
        have LB51 := Lib.hid (LB50.out.next hu)
        have CA51 := Lib.hid (CA50.out.next hu)
        have CB51 := Lib.hid (CB50.out.next hu)
        have SU51 := Lib.hid (SU50.out.next hu)
        have HU51 := Lib.hid (HU50.out.trans hu)
        clear hu HU50 LA50 LB50 CA50 CB50 SU50
        go_wp2_with fail
        refine (same_yes p3 len1 c3 _ a1 cap1 _ x1 _ CB51.out LB51.out m3).mono ?_
        rintro e v82 ⟨rfl, hu⟩
        have LA52 := Lib.hid (LA51.out.next hu)
        have LB52 := Lib.hid (LB51.out.next hu)
        have CA52 := Lib.hid (CA51.out.next hu)
        have CB52 := Lib.hid (CB51.out.next hu)
        have SU52 := Lib.hid (SU51.out.next hu)
        have HU52 := Lib.hid (HU51.out.trans hu)
        clear hu HU51 LA51 LB51 CA51 CB51 SU51
        go_wp2_with fail
        refine (add2_any p2 len0 c2 _ x0 p3 len1 c3 _ x1 _ CA52.out (Nat.le_refl _) m2 CB52.out (Nat.le_refl _) m3).mono ?_
        rintro e v83 ⟨r83, rfl, hv, hu⟩
        obtain ⟨p83, c83, rfl, hi, m83, _⟩ := own_ints hv.1
        have S253 := Lib.hid hi
        clear hv hi
        have LA53 := Lib.hid (LA52.out.next hu)
        have LB53 := Lib.hid (LB52.out.next hu)
        have CA53 := Lib.hid (CA52.out.next hu)
        have CB53 := Lib.hid (CB52.out.next hu)
        have SU53 := Lib.hid (SU52.out.next hu)
        have HU53 := Lib.hid (HU52.out.trans hu)
        clear hu HU52 LA52 LB52 CA52 CB52 SU52
        go_wp2_with fail
        refine (same_yes p83 _ c83 _ p5 c5 _ _ _ S253.out SU53.out m83).mono ?_
        rintro e v84 ⟨rfl, hu⟩
        have LA54 := Lib.hid (LA53.out.next hu)
        have LB54 := Lib.hid (LB53.out.next hu)
        have CA54 := Lib.hid (CA53.out.next hu)
        have CB54 := Lib.hid (CB53.out.next hu)
        have SU54 := Lib.hid (SU53.out.next hu)
        have S254 := Lib.hid (S253.out.next hu)
        have HU54 := Lib.hid (HU53.out.trans hu)
        clear hu HU53 LA53 LB53 CA53 CB53 SU53 S253
        go_wp2_with fail
        go_ret
        exact ⟨rfl, upd_ends HU54.out⟩
end Go.Proofs.Ytcmcjojjphhffaa
