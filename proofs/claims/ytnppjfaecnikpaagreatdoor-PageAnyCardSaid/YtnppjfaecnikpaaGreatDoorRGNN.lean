import Derived.Test.YtnppjfaecnikpaaGreatDoorRGNK
import Derived.DataShut
/- BchSpare, walked. -/
namespace Go.Proofs.YtnppjfaecnikpaaGreatDoor
open F
open Go.RowKit Pm
set_option linter.unusedVariables false

theorem ofInt_u8 (a : Nat) (ha : a < 256) : (BitVec.ofInt 8 (a : Int)).toNat = a := by
  rw [BitVec.toNat_ofInt]
  show (((a : Int) % ((256 : Nat) : Int))).toNat = a
  omega
theorem wrap_u8_nat (a : Nat) (ha : a < 256) : IntKind.u8.wrap (a : Int) = (a : Int) := by
  show ((a : Int) % 256) = _
  omega
theorem u8_and_n (a b : Nat) (ha : a < 256) (hb : b < 256) : bits .and .u8 (a : Int) (b : Int) = ((a &&& b : Nat) : Int) := by
  have hx : a &&& b < 2 ^ 8 := Nat.and_lt_two_pow _ hb
  show IntKind.u8.wrap (((BitVec.ofInt 8 (a : Int) &&& BitVec.ofInt 8 (b : Int)).toNat : Nat) : Int) = _
  rw [BitVec.toNat_and, ofInt_u8 a ha, ofInt_u8 b hb]
  exact wrap_u8_nat _ hx
theorem u8_xor_n (a b : Nat) (ha : a < 256) (hb : b < 256) : bits .xor .u8 (a : Int) (b : Int) = ((a ^^^ b : Nat) : Int) := by
  have hx : a ^^^ b < 2 ^ 8 := Nat.xor_lt_two_pow ha hb
  show IntKind.u8.wrap (((BitVec.ofInt 8 (a : Int) ^^^ BitVec.ofInt 8 (b : Int)).toNat : Nat) : Int) = _
  rw [BitVec.toNat_xor, ofInt_u8 a ha, ofInt_u8 b hb]
  exact wrap_u8_nat _ hx
theorem Made.far {w0 w1 w : World} {c t g : Nat} {k : Int} (h : Made w0 c t k) (h1 : Upd noBlock w0 w1) (hg : w0.heap.size ≤ g) (h2 : Upd (oneBlock g) w1 w) : Made w c t k :=
  (((h.bound _ (Nat.le_refl _)).grow h1).keep h2 (fun i hi e => by have e' : i = g := e; omega)).made
theorem word_spared (t : Nat) (h1 : 1 ≤ t) (h8 : t ≤ 8) (data q : ByteArray) (hq : q.size = (13 * t + 7) / 8) (hb : ∀ j, j < 13 * t → dbit q.data.toList j = dbit (parT t data.data.toList) j) : wordOf t data q = data.data.toList ++ parT t data.data.toList := by
  unfold wordOf
  congr 1
  refine bytes_ext (by rw [textL_length, parT_length, hq]) fun j _ => ?_
  rw [dbit_textFrom q t h8 hq]
  by_cases hj : j < 13 * t
  · rw [decide_eq_true hj, Bool.true_and, hb j hj]
  · rw [decide_eq_false hj, Bool.false_and, parT_spare t h1 h8 _ j (by omega)]
end Go.Proofs.YtnppjfaecnikpaaGreatDoor

/- The law's flipped: a word with some of its bits turned. -/
namespace Go.Proofs.YtnppjfaecnikpaaGreatDoor
open F
open Go.RowKit Pm
set_option linter.unusedVariables false

/-- a row of bools of the call's own -/
def BoolRow (w : World) (g n : Nat) (f : Nat → Bool) : Prop :=
  ∃ cur : Array Value, w.heap[g]? = some (.cells cur 4 (0, 0)) ∧ cur.size = n ∧ ∀ j, j < n → cur[j]? = some (.bool (f j))
theorem BoolRow.cell {w : World} {g n : Nat} {f : Nat → Bool} (h : BoolRow w g n f) (j : Nat) (hj : j < n) : w.cell? ⟨g, j, none⟩ = some (.bool (f j)) := by
  obtain ⟨cur, hg, _, hc⟩ := h
  rw [cell_of hg]; exact hc j hj
theorem BoolRow.free {w : World} {g n : Nat} {f : Nat → Bool} (h : BoolRow w g n f) (j : Nat) : w.frozen? ⟨g, j, none⟩ = false := by
  obtain ⟨cur, hg, _, _⟩ := h
  exact free_of hg j
theorem BoolRow.grow {w w' : World} {g n : Nat} {f : Nat → Bool} (h : BoolRow w g n f) (hu : Upd noBlock w w') : BoolRow w' g n f := by
  obtain ⟨cur, hg, r⟩ := h
  exact ⟨cur, (hu.block g (lt_of_block hg) (fun h => h)).trans hg, r⟩
theorem BoolRow.other {w : World} {g n g' i : Nat} {v : Value} {f : Nat → Bool} (h : BoolRow w g n f) (hne : ¬ g = g') : BoolRow (w.setCell ⟨g', i, none⟩ v) g n f := by
  obtain ⟨cur, hg, r⟩ := h
  exact ⟨cur, block_set_other hg hne v, r⟩
theorem BoolRow.set {w : World} {g n : Nat} {f : Nat → Bool} (h : BoolRow w g n f) (i : Nat) (b : Bool) : BoolRow (w.setCell ⟨g, i, none⟩ (.bool b)) g n (fun j => if j = i then b else f j) := by
  obtain ⟨cur, hg, hs, hc⟩ := h
  refine ⟨_, block_set hg _, by rw [Array.size_setIfInBounds]; exact hs, fun j hj => ?_⟩
  rw [Array.getElem?_setIfInBounds]
  by_cases e1 : j = i
  · subst e1
    rw [if_pos rfl, if_pos (by omega)]
    simp only [if_true]
  · rw [if_neg (Ne.symm e1)]
    simp only [if_neg e1]
    exact hc j hj
theorem BoolRow.congr {w : World} {g n : Nat} {f f' : Nat → Bool} (h : BoolRow w g n f) (hf : ∀ j, j < n → f j = f' j) : BoolRow w g n f' := by
  obtain ⟨cur, hg, hs, hc⟩ := h
  exact ⟨cur, hg, hs, fun j hj => by rw [← hf j hj]; exact hc j hj⟩
theorem ByteRow.other {w : World} {g n g' i : Nat} {e : TypeId} {v : Value} {f : Nat → Nat} (h : ByteRow w g n e f) (hne : ¬ g = g') : ByteRow (w.setCell ⟨g', i, none⟩ v) g n e f := by
  obtain ⟨cur, z, hg, r⟩ := h
  exact ⟨cur, z, block_set_other hg hne v, r⟩
/-- the facts of the state -/
structure QsOk (N most : Nat) (qs : List Nat) : Prop where
  nd : qs.Nodup
  lt : ∀ q ∈ qs, q < N
  le : qs.length ≤ most
theorem QsOk.snoc {N most : Nat} {qs : List Nat} (h : QsOk N most qs) {q : Nat} (hq : q < N) (hn : q ∉ qs) (hl : qs.length < most) : QsOk N most (qs ++ [q]) where
  nd := List.nodup_append.2 ⟨h.nd, by simp, fun a ha b hb e => by
    have : b = q := by simpa using hb
    subst this; subst e; exact hn ha⟩
  lt := fun x hx => by
    rcases List.mem_append.1 hx with hx | hx
    · exact h.lt x hx
    · have : x = q := by simpa using hx
      omega
  le := by rw [List.length_append]; simp; omega
end Go.Proofs.YtnppjfaecnikpaaGreatDoor

/- The document's Word and Apart; the law's word. -/
namespace Go.Proofs.YtnppjfaecnikpaaGreatDoor
open F
open Go.RowKit Pm
set_option linter.unusedVariables false

/-- how many of the first N bits differ -/
def dist (N : Nat) (f g : Nat → Bool) : Nat := ((List.range N).filter fun p => f p != g p).length
theorem dist_le (N : Nat) (f g : Nat → Bool) : dist N f g ≤ N := by
  unfold dist
  have := List.length_filter_le (fun p => f p != g p) (List.range N)
  rw [List.length_range] at this
  exact this
theorem dist_succ (N : Nat) (f g : Nat → Bool) : dist (N + 1) f g = dist N f g + (if f N != g N then 1 else 0) := by
  unfold dist
  rw [List.range_succ, List.filter_append, List.length_append]
  congr 1
  by_cases h : (f N != g N) = true
  · rw [List.filter_cons, if_pos h, if_pos h]; rfl
  · rw [List.filter_cons, if_neg h, if_neg h]; rfl
theorem dist_turns {t k : Nat} {data par : ByteArray} {ps : List Nat} (h1 : 1 ≤ t) (h8 : t ≤ 8) (hd : data.size = k) (hp : par.size = (13 * t + 7) / 8) (hg : Good t (8 * k + 13 * t) (restOf t data par) ps) :
    dist (8 * k + 13 * t) (dbit (data.data.toList ++ par.data.toList)) (dbit (turns (8 * k + 13 * t) (wordOf t data par) ps)) = ps.length := by
  obtain ⟨g1, g2, _, _⟩ := hg
  obtain ⟨N, hN⟩ : ∃ N, 8 * k + 13 * t = N := ⟨_, rfl⟩
  have hlen : (wordOf t data par).length = k + (13 * t + 7) / 8 := by rw [wordOf_length, hd, hp]
  rw [hN] at g2 ⊢
  have hdl : data.data.toList.length = k := hd
  have hnd : ps.Nodup := List.nodup_iff_pairwise_ne.2 (g1.imp fun h => Nat.ne_of_lt h)
  have hmap : (ps.map fun p => N - 1 - p).Nodup := by
    refine List.nodup_iff_pairwise_ne.2 (List.pairwise_map.2 (List.Pairwise.imp_of_mem (R := fun a b => a ≠ b) (fun {a b} ha hb hab e => ?_) (List.nodup_iff_pairwise_ne.1 hnd)))
    have := g2 a ha; have := g2 b hb; omega
  have hb : ∀ q, q < N → (dbit (data.data.toList ++ par.data.toList) q != dbit (turns N (wordOf t data par) ps) q) = decide (q ∈ ps.map fun p => N - 1 - p) := fun q hq => by
    rw [turns_flips, dbit_flips _ _ _ hmap (fun x hx => by
      obtain ⟨p, hp, rfl⟩ := List.mem_map.1 hx
      have := g2 p hp
      omega)]
    have e : dbit (wordOf t data par) q = dbit (data.data.toList ++ par.data.toList) q := by
      unfold wordOf
      by_cases h : q < 8 * k
      · rw [dbit_left _ _ _ (by omega), dbit_left _ _ _ (by omega)]
      · obtain ⟨j, rfl⟩ : ∃ j, q = 8 * data.data.toList.length + j := ⟨q - 8 * k, by omega⟩
        rw [dbit_right, dbit_right, dbit_textFrom par t h8 hp, decide_eq_true (by omega), Bool.true_and]
    rw [e]
    cases dbit (data.data.toList ++ par.data.toList) q <;> cases decide (q ∈ ps.map fun p => N - 1 - p) <;> rfl
  have hperm : ((List.range N).filter fun q => dbit (data.data.toList ++ par.data.toList) q != dbit (turns N (wordOf t data par) ps) q).Perm (ps.map fun p => N - 1 - p) := by
    refine (List.perm_ext_iff_of_nodup (List.nodup_iff_pairwise_ne.2 ((List.Pairwise.filter _ List.pairwise_lt_range).imp fun h => Nat.ne_of_lt h)) hmap).2 fun q => ?_
    rw [List.mem_filter, List.mem_range]
    constructor
    · intro ⟨h1, h2⟩
      rw [hb q h1] at h2
      exact of_decide_eq_true h2
    · intro h
      have hq : q < N := by
        obtain ⟨p, hp, rfl⟩ := List.mem_map.1 h
        have := g2 p hp
        omega
      exact ⟨hq, by rw [hb q hq]; exact decide_eq_true h⟩
  unfold dist
  rw [hperm.length_eq, List.length_map]
theorem bl_take (N k : Nat) (f : Nat → Bool) (h : k ≤ N) : (bl N f).take k = bl k f := by
  unfold bl
  rw [← List.map_take, List.take_range, Nat.min_eq_left h]
theorem bl_append (a b : Nat) (f g h : Nat → Bool) (h1 : ∀ p, p < a → h p = f p) (h2 : ∀ p, p < b → h (a + p) = g p) : bl a f ++ bl b g = bl (a + b) h := by
  unfold bl
  rw [List.range_add, List.map_append, List.map_map]
  congr 1
  · exact List.map_congr_left fun p hp => by rw [h1 p (List.mem_range.1 hp)]
  · refine List.map_congr_left fun p hp => ?_
    show bi (g p) = bi (h (a + p))
    rw [h2 p (List.mem_range.1 hp)]
set_option maxRecDepth 100000 in
set_option maxHeartbeats 1600000 in
theorem refWord_any (t k : Nat) (data par : ByteArray) (w : World) (h1 : 1 ≤ t) (h8 : t ≤ 8) (hk : k ≤ 256) (hd : data.size = k) (hp : par.size = (13 * t + 7) / 8) :
    Calls Tryz.prog 26 #[.int .i64 (t : Int), .string data, .string par] w fun e w' => ∃ a c, e = .returned (.slice a (8 * k + 13 * t) c) ∧ Ints w' w'.heap.size a (8 * k + 13 * t) (bl (8 * k + 13 * t) (dbit (data.data.toList ++ par.data.toList))) ∧ Upd noBlock w w' := by
  obtain ⟨i0, hi0, hz0, hz1, hz2⟩ := intPartsI
  have HB1 := Lib.hid (fun W => refBits_any data W (by omega))
  have HB2 := Lib.hid (fun W => refBits_any par W (by omega))
  have HD := Lib.hid (fun W => refDegree_any t W h1 h8)
  have hdl : data.data.toList.length = k := hd
  have HAP : Hid (bl (8 * k) (dbit data.data.toList) ++ bl (13 * t) (dbit par.data.toList) = bl (8 * k + 13 * t) (dbit (data.data.toList ++ par.data.toList))) :=
    bl_append _ _ _ _ _ (fun p hp => dbit_left _ _ _ (by omega)) (fun p hp => by rw [← hdl]; exact dbit_right _ _ _)
  rw [hd] at HB1
  obtain ⟨M, hM⟩ : ∃ M, 8 * par.size = M := ⟨_, rfl⟩
  have hdM : 13 * t ≤ M := by omega
  have HTK : Hid ((bl M (dbit par.data.toList)).take (13 * t) = bl (13 * t) (dbit par.data.toList)) := bl_take _ _ _ hdM
  rw [hM] at HB2
  have hd104 : 13 * t ≤ 104 := by omega
  have hk8 : 8 * k ≤ 2048 := by omega
  generalize dbit (data.data.toList ++ par.data.toList) = F0 at *
  generalize dbit data.data.toList = F1 at *
  generalize dbit par.data.toList = F2 at *
  generalize 8 * k = K at *
  generalize 13 * t = d at *
  have HL1 : Hid ((bl K F1).length = K) := bl_length _ _
  have HL2 : Hid ((bl M F2).length = M) := bl_length _ _
  clear hd hp hM h1 h8 hdl
  go_enter Tryz.func26, Tryz.ntmps26
  go_upto_region 3 with (first
    | (go_at_call 54; (with_reducible refine (HB1.out _).mono ?_); rintro e w1 ⟨v1, rfl, ho1, hu1⟩; have O1 := Lib.hid ho1; have U1 := Lib.hid hu1; clear ho1 hu1)
    | (go_at_call 54; (with_reducible refine (HB2.out _).mono ?_); rintro e w2 ⟨v2, rfl, ho2, hu2⟩; have O2 := Lib.hid ho2; have O12 := Lib.hid (O1.out.grow hu2); have U2 := Lib.hid (U1.out.trans hu2); clear ho2 hu2))
  obtain ⟨a2, c2, rfl, hi2, hm2, -⟩ := O2.out.sl
  have hc2 := own_cap O2.out
  rw [HL2.out] at hi2 hc2 ⊢
  have hlo : ∀ w : World, (Instr.sliceAt 59 (.slice a2 M c2) none (some (.int .i64 (d : Int))) none).run Tryz.prog w = .ok (.slice (if c2 = 0 then a2 else a2.map (·.add 0)) d c2) w := fun w => Doc.run_slice_lo w 59 3 i0 Tryz.underlying59 hi0 a2 M c2 d hdM hc2
  have HH := Lib.hid (Doc.ints_head w2 hi2 (k := d) (c := c2) hdM)
  rw [HTK.out] at HH
  generalize (if c2 = 0 then a2 else a2.map (·.add 0)) = A1 at *
  clear hi2 hm2 hc2 O2
  go_wp2_with (first
    | (go_at_call 34; (with_reducible refine (HD.out _).mono ?_); rintro e w3 ⟨rfl, hu3⟩; have U3 := Lib.hid (U2.out.trans hu3); have O3 := Lib.hid (O12.out.grow hu3); have H3 := Lib.hid (HH.out.grow hu3 (Nat.le_refl _)); have B3 := Lib.hid hu3.size; clear hu3)
    | (at_builtin; refine wpList_append_ints _ rfl (.tmp 13) (.tmp 17) _ rfl w.heap.size 3 i0 _ Tryz.underlying59 hi0 hz0 hz1 hz2 rfl _ (bl K F1).length (vals (bl K F1)) rfl O3.out _ A1 d c2 _ rfl H3.out (by rw [HL1.out]; simp only [maxLen]; omega) (by rw [HL1.out]; omega) (by have := U3.out.size; omega) ?_; intro v4 w4 hown4 hg4 _))
  go_ret
  have hv : vals (bl K F1) ++ vals (bl d F2) = vals (bl (K + d) F0) := by rw [← HAP.out]; unfold vals; rw [List.map_append]
  rw [hv, HL1.out] at hown4
  obtain ⟨a4, c4, rfl, h4, -, -⟩ := own_ints hown4
  exact ⟨a4, c4, rfl, h4, U3.out.grownOwn hg4 (fun i hi => O3.out.lt i hi)⟩
set_option maxRecDepth 100000 in
set_option maxHeartbeats 1600000 in
theorem refApart_any (a a' : Option Addr) (N c c' B B' : Nat) (f g : Nat → Bool) (w : World) (h : Ints w B a N (bl N f)) (h' : Ints w B' a' N (bl N g)) (hB : B ≤ w.heap.size) (hB' : B' ≤ w.heap.size) (hN : N ≤ 5000) :
    Calls Tryz.prog 25 #[.slice a N c, .slice a' N c'] w fun e w' => e = .returned (.int .i64 (dist N f g : Nat)) ∧ Upd noBlock w w' := by
  have HS := Lib.hid h
  have HT := Lib.hid h'
  have HBB : Hid (B ≤ w.heap.size ∧ B' ≤ w.heap.size) := ⟨hB, hB'⟩
  clear h h' hB hB'
  go_enter Tryz.func25, Tryz.ntmps25
  go_wp2
  go_loopw [5, 6] (fun s5 s6 wr => ∃ k : Nat, k ≤ N ∧ s6 = .int .i64 (k : Int) ∧ s5 = .int .i64 ((dist k f g : Nat) : Int) ∧ Hid (Upd noBlock w wr)) (fun _ s6 _ => N - (intOf s6).toNat)
  case atStart => exact ⟨0, Nat.zero_le _, rfl, rfl, Upd.refl _ _⟩
  case round =>
    obtain ⟨k, hk, rfl, rfl, HU⟩ := hrel
    have hdk : dist k f g ≤ 5000 := Nat.le_trans (dist_le k f g) (by omega)
    by_cases h0 : k < N
    · obtain ⟨b, off, hab, hb, hc⟩ := (HS.out.grow HU.out HBB.out.1).cell (by omega)
      obtain ⟨b', off', hab', hb', hc'⟩ := (HT.out.grow HU.out HBB.out.2).cell (by omega)
      subst hab hab'
      have c1 := hc k h0
      have c2 := hc' k h0
      rw [bl_getD _ _ _ h0] at c1 c2
      have HDS := Lib.hid (dist_succ k f g)
      generalize f k = x at *
      generalize g k = y at *
      clear hc hc'
      cases x <;> cases y
      · have HX : Hid (dist (k + 1) f g = dist k f g) := HDS.out
        have c1' : wr.cell? ⟨b, off + k, none⟩ = some (.int .i64 0) := c1
        have c2' : wr.cell? ⟨b', off' + k, none⟩ = some (.int .i64 0) := c2
        clear c1 c2 HDS
        go_wp2
        go_region
        go_wp2
        go_roundw
        case rel => exact ⟨k + 1, by omega, by go_num, by rw [HX.out], HU.out.drew⟩
        case measure => simp [intOf] <;> omega
      · have HX : Hid (dist (k + 1) f g = dist k f g + 1) := HDS.out
        have c1' : wr.cell? ⟨b, off + k, none⟩ = some (.int .i64 0) := c1
        have c2' : wr.cell? ⟨b', off' + k, none⟩ = some (.int .i64 1) := c2
        clear c1 c2 HDS
        go_wp2
        go_region
        go_wp2
        go_roundw
        case rel => exact ⟨k + 1, by omega, by go_num, by rw [HX.out]; go_num, HU.out.drew⟩
        case measure => simp [intOf] <;> omega
      · have HX : Hid (dist (k + 1) f g = dist k f g + 1) := HDS.out
        have c1' : wr.cell? ⟨b, off + k, none⟩ = some (.int .i64 1) := c1
        have c2' : wr.cell? ⟨b', off' + k, none⟩ = some (.int .i64 0) := c2
        clear c1 c2 HDS
        go_wp2
        go_region
        go_wp2
        go_roundw
        case rel => exact ⟨k + 1, by omega, by go_num, by rw [HX.out]; go_num, HU.out.drew⟩
        case measure => simp [intOf] <;> omega
      · have HX : Hid (dist (k + 1) f g = dist k f g) := HDS.out
        have c1' : wr.cell? ⟨b, off + k, none⟩ = some (.int .i64 1) := c1
        have c2' : wr.cell? ⟨b', off' + k, none⟩ = some (.int .i64 1) := c2
        clear c1 c2 HDS
        go_wp2
        go_region
        go_wp2
        go_roundw
        case rel => exact ⟨k + 1, by omega, by go_num, by rw [HX.out], HU.out.drew⟩
        case measure => simp [intOf] <;> omega
    · obtain rfl : k = N := by omega
      go_wp2
      go_ret
      exact ⟨rfl, HU.out⟩
end Go.Proofs.YtnppjfaecnikpaaGreatDoor
