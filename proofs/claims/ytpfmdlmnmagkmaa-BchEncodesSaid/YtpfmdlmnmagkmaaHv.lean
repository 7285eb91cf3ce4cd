/- Walks over package poly: Minimal. -/
import Derived.Test.YtpfmdlmnmagkmaaHu
import Derived.Test.YtpfmdlmnmagkmaaPl
namespace Go.Proofs.Ytpfmdlmnmagkmaa
open Go.RowKit Pm Gfm

/-- the squares of a power, one after the other -/
def rt (K : Nat) : Nat → Nat | 0 => pw K | j + 1 => mul (rt K j) (rt K j)
theorem rt_pw (K j : Nat) : rt K j = pw (2 ^ j * K) := by
  induction j with
  | zero => simp [rt]
  | succ j ih =>
    show mul (rt K j) (rt K j) = _
    rw [ih, mul_pw, Nat.pow_succ]
    congr 1
    rw [Nat.mul_comm (2 ^ j) 2, Nat.mul_assoc]; omega
theorem rt_13 (K : Nat) : rt K 13 = rt K 0 := by
  rw [rt_pw, rt_pw, show 2 ^ 13 * K = K + 8191 * K by omega, pw_addk]; simp
theorem rt_lt (K j : Nat) : rt K j < 8192 := by rw [rt_pw]; exact pw_lt _
theorem rt_pos (K j : Nat) : 0 < rt K j := by rw [rt_pw]; exact pw_pos _
theorem pow_two (a : Nat) (h0 : 0 < a) (h : a < 8192) : powN a 2 = mul a a := by
  have e2 : trn 2 = 2 := by decide
  unfold powN
  rw [if_neg (by omega), if_neg (by omega), e2]
  have hl := pw_lg a h0 h
  have hm := mul_pw (lg a) (lg a)
  rw [hl] at hm
  rw [hm]
  generalize lg a = x
  have et : trn ((x : Int) * ((2 : Nat) : Int)) = (x + x) % 8191 := by unfold trn; omega
  rw [et, pw_mod]
/-- the product of x + r over the first j of them -/
def mprod (K : Nat) : Nat → List Nat | 0 => [1] | j + 1 => wroot (mprod K j) (rt K j)
theorem mprod_length (K j : Nat) : (mprod K j).length = j + 1 := by
  induction j with
  | zero => rfl
  | succ j ih => show (wroot _ _).length = _; rw [wroot_length, ih]
theorem mprod_small (K j : Nat) : Small (mprod K j) := by
  induction j with
  | zero => intro x hx; simp [mprod] at hx; omega
  | succ j ih => exact wroot_small ih _
/-- the exponents below k whose coefficient is 1 -/
def mexp (l : List Nat) (k : Nat) : List Int := ((List.range k).filter fun i => l.getD i 0 == 1).map fun i : Nat => (i : Int)
theorem mexp_succ (l : List Nat) (k : Nat) : mexp l (k + 1) = if l.getD k 0 = 1 then mexp l k ++ [(k : Int)] else mexp l k := by
  unfold mexp
  rw [List.range_succ, List.filter_append, List.map_append]
  by_cases h : l.getD k 0 = 1
  · have hb : (l.getD k 0 == 1) = true := beq_iff_eq.2 h
    rw [if_pos h, List.filter_cons, if_pos hb]; rfl
  · have hb : ¬ (l.getD k 0 == 1) = true := fun e => h (beq_iff_eq.1 e)
    rw [if_neg h, List.filter_cons, if_neg hb]
    simp
theorem mexp_le (l : List Nat) (k : Nat) : (mexp l k).length ≤ k := by
  unfold mexp
  rw [List.length_map]
  exact Nat.le_trans (List.length_filter_le _ _) (by simp)
def mpol (K j : Nat) : Nat := gat (mexp (mprod K j) (j + 1))
/-- a row told by a list -/
def lrow (l : List Nat) (j : Nat) : Value := .int .i64 ((l.getD j 0 : Nat) : Int)
theorem row_list {w : World} {g m : Nat} {l : List Nat} (h : w.rowIs g 3 m (lrow l)) (hl : l.length = m) : Ints w w.heap.size (some ⟨g, 0, none⟩) m (nats l) :=
  ⟨by rw [nats_length, hl], fun _ => ⟨g, 0, rfl, h.lt, fun i hi => by
    rw [Nat.zero_add, h.cell (i := i) hi, nats_getD]; rfl⟩⟩
theorem prow_list (p : List Nat) (r j : Nat) (h : j < p.length + 1) : prow p r (p.length + 1) j = lrow (wroot p r) j := by
  unfold prow lrow
  rw [if_pos h, wroot_getD p r j h]
theorem ints1 (w : World) (x : Int) : Ints (w.alloc (.cells #[.int .i64 x] 3)) (w.heap.size + 1) (some ⟨w.heap.size, 0, none⟩) 1 [x] :=
  ⟨rfl, fun _ => ⟨w.heap.size, 0, rfl, by omega, fun i hi => by
    rw [cell_of (heap_alloc_new w _)]
    obtain rfl : i = 0 := by omega
    rfl⟩⟩
/-- withRoot, told by lists -/
theorem withRoot_list (b : Spt) (n : Int) (g m : Nat) (l : List Nat) (r : Nat) (w : World) (h : Ready w b n) (hr : Ints w w.heap.size (some ⟨g, 0, none⟩) m (nats l)) (hl : l.length = m) (h1 : 1 ≤ m) (h2 : m ≤ 100) (hp : Small l) (hr8 : r < 8192) (c : Nat) :
    Calls Try.prog 69 #[.pointer (some ⟨b.blk, b.off, none⟩), .slice (some ⟨g, 0, none⟩) m c, .int .i64 (r : Int)] w fun e w' =>
      e = .returned (.slice (some ⟨w.heap.size, 0, none⟩) (m + 1) (m + 1)) ∧ w'.rowIs w.heap.size 3 (m + 1) (lrow (wroot l r)) ∧ Upd noBlock w w' := by
  subst hl
  refine (withRoot_any b n _ c w.heap.size l r w h hr (Nat.le_refl _) h1 h2 hp hr8).mono ?_
  rintro e w' ⟨rfl, h1, h2⟩
  exact ⟨rfl, h1.congr (fun i hi => prow_list l r i hi), h2⟩

def MinPost (b : Spt) (n : Int) (K : Nat) (w : World) (e : Ending) (w' : World) : Prop :=
  ∃ J v, 1 ≤ J ∧ J ≤ 13 ∧ rt K J = rt K 0 ∧ (∀ i, 1 ≤ i → i < J → rt K i ≠ rt K 0) ∧ e = .returned v ∧ PolyV w w' v (mpol K J) ∧ Ready w' b n ∧ Upd (oneBlock b.blk) w w'
theorem Upd.one {b : Nat} {w w' : World} (h : Upd noBlock w w') : Upd (oneBlock b) w w' := h.mono (fun _ _ h => h.elim)

set_option maxRecDepth 20000 in
set_option maxHeartbeats 1600000 in
theorem minimal_any (b : Spt) (n k : Int) (w : World) (h : Fld w b n) :
    Calls Try.prog 46 #[.pointer (some ⟨b.blk, b.off, none⟩), .int .i64 k] w (MinPost b n (trn k) w) := by
  obtain ⟨i0, hi0, hz0, hz1, hz2⟩ := intParts2
  have HF := Lib.hid h
  clear h
  have e0 : pw (trn k) = rt (trn k) 0 := rfl
  obtain ⟨K, HK⟩ : ∃ K, Hid (trn k = K) := ⟨_, rfl⟩
  rw [HK.out] at e0
  rw [HK.out]
  go_enter Try.func46, Try.ntmps46
  go_wp2_with fail
  refine (exp_any b n k _ HF.out).mono ?_
  rintro e w1 ⟨rfl, hr1, hu1⟩
  rw [HK.out, e0]
  have HR1 := Lib.hid hr1
  have HU1 := Lib.hid hu1
  clear hr1 hu1 HF e0
  go_wp2_with fail
  have hi1 := ints1 w1 1
  have hun : Upd noBlock w1 (w1.alloc (.cells #[.int .i64 1] 3)) := (Upd.refl _ _).alloc _
  refine (withRoot_list b n w1.heap.size 1 [1] (rt K 0) _ (HR1.out.upd hun) (hi1.more (by simp)) rfl (by omega) (by omega) (mprod_small K 0) (rt_lt K 0) 1).mono ?_
  rintro e w2 ⟨rfl, hrow2, hu2⟩
  have HRW2 := Lib.hid hrow2
  have HU2 := Lib.hid (hun.trans hu2)
  have hg2 : w1.heap.size ≤ (w1.alloc (.cells #[.int .i64 1] 3)).heap.size := by simp
  clear hi1 hun hu2 hrow2
  generalize (w1.alloc (.cells #[.int .i64 1] 3)).heap.size = g2 at *
  go_wp2_with fail
  refine (pow_ready b n _ _ _ (HR1.out.upd HU2.out)).mono ?_
  rintro e w3 ⟨rfl, _, hu3⟩
  have e1 : powN (low ((rt K 0 : Nat) : Int)) 2 = rt K 1 := by rw [low_nat _ (rt_lt K 0), pow_two _ (rt_pos K 0) (rt_lt K 0)]; rfl
  rw [e1]
  have HRW3 := Lib.hid (HRW2.out.of_block (hu3.block _ HRW2.out.lt (fun h => h)))
  have HU3 := Lib.hid (HU2.out.trans hu3)
  clear hu3 HRW2 HU2 e1
  go_wp2_with fail
  have HB1 : Hid (w1.heap.size ≤ g2) := hg2
  clear hg2
  go_loopw [6, 7] (fun pv r wr => ∃ j g : Nat, 1 ≤ j ∧ j ≤ 13 ∧ pv = .slice (some ⟨g, 0, none⟩) (j + 1) (j + 1) ∧ r = .int .i64 ((rt K j : Nat) : Int) ∧ Hid (w1.heap.size ≤ g) ∧ Hid (∀ i, 1 ≤ i → i < j → rt K i ≠ rt K 0) ∧ Hid (wr.rowIs g 3 (j + 1) (lrow (mprod K j))) ∧ Hid (Upd noBlock w1 wr)) (fun pv _ _ => match pv with | .slice _ m _ => 15 - m | _ => 0)
  case atStart => exact ⟨1, g2, by omega, by omega, rfl, rfl, HB1, (fun i h1 h2 => absurd h2 (by omega)), HRW3, HU3⟩
  case round =>
    clear HB1 HRW3 HU3
    obtain ⟨j, g, hj1, hj, rfl, rfl, HB, HD, HRW, HU⟩ := hrel
    by_cases hr : rt K j = rt K 0
    · have HRT := Lib.hid hr
      rw [hr]
      obtain ⟨m, Hm⟩ : ∃ m, Hid (j + 1 = m) := ⟨_, rfl⟩
      rw [Hm.out] at HRW
      rw [Hm.out]
      have hm : m ≤ 14 := by rw [← Hm.out]; omega
      clear hr
      go_wp2_with fail
      obtain ⟨wo, rfl⟩ : ∃ wo : World, wo = wr := ⟨_, rfl⟩
      go_loopw [8, 35] (fun v i wr => ∃ q : Nat, q ≤ m ∧ i = .int .i64 (q : Int) ∧ Hid (wr.ownsRow wo.heap.size 3 1 v (mexp (mprod K j) q).length (vals (mexp (mprod K j) q))) ∧ Hid (Upd noBlock wo wr)) (fun _ i _ => m - (intOf i).toNat)
      case atStart => exact ⟨0, Nat.zero_le _, rfl, World.ownsRow_nil _ _ _ _, Upd.refl _ _⟩
      case round =>
        obtain ⟨q, hq, rfl, HO, HU2⟩ := hrel
        by_cases hqm : q < m
        · have c1 := (HRW.out.of_block (HU2.out.block g HRW.out.lt (fun h => h))).cell (i := q) hqm
          have hle := mexp_le (mprod K j) q
          have HX := Lib.hid (mexp_succ (mprod K j) q)
          by_cases h1 : (mprod K j).getD q 0 = 1
          · have c2 : wr.cell? ⟨g, q, none⟩ = some (.int .i64 1) := by rw [c1]; unfold lrow; rw [h1]; rfl
            have HX2 : Hid (mexp (mprod K j) (q + 1) = mexp (mprod K j) q ++ [(q : Int)]) := by have h := HX.out; rw [if_pos h1] at h; exact h
            have HIn := Lib.hid (ints1 wr (q : Int))
            have HO2 := Lib.hid (HO.out.alloc (.cells #[.int .i64 (q : Int)] 3))
            have HU3 := Lib.hid (HU2.out.alloc (.cells #[.int .i64 (q : Int)] 3))
            have hsz := HU2.out.size
            have HLE := Lib.hid hle
            clear c1 h1 HX HO HU2 hle
            go_wp2_with (at_builtin; refine wpList_append_ints _ rfl (.tmp 42) (.tmp 44) _ rfl wo.heap.size 3 i0 _ Try.underlying34 hi0 hz0 hz1 hz2 rfl _ _ (vals (mexp (mprod K j) q)) rfl HO2.out (wr.heap.size + 1) (some ⟨wr.heap.size, 0, none⟩) 1 1 [(q : Int)] rfl HIn.out (by have := HLE.out; unfold maxLen; omega) (by have := HLE.out; omega) (by simp; omega) ?_; intro v3 w3 hown3 hg3 _)
            go_roundw
            case rel =>
              refine ⟨q + 1, by omega, by go_num, ?_, ?_⟩
              · have e : (mexp (mprod K j) (q + 1)).length = (mexp (mprod K j) q).length + 1 := by rw [HX2.out]; simp
                have e2 : vals (mexp (mprod K j) (q + 1)) = vals (mexp (mprod K j) q) ++ vals [(q : Int)] := by rw [HX2.out]; simp [vals]
                rw [e, e2]
                exact hown3
              · exact HU3.out.grownOwn hg3 (fun k hk => (HO2.out.lt k hk).1)
            case measure => simp [intOf]; omega
          · have c2 : wr.cell? ⟨g, q, none⟩ = some (.int .i64 (((mprod K j).getD q 0 : Nat) : Int)) := c1
            have t1 : ((((mprod K j).getD q 0 : Nat) : Int) == 1) = false := beq_eq_false_iff_ne.2 (by omega)
            have HX2 : Hid (mexp (mprod K j) (q + 1) = mexp (mprod K j) q) := by have h := HX.out; rw [if_neg h1] at h; exact h
            clear c1 h1 HX hle
            generalize (mprod K j).getD q 0 = z at *
            go_wp2
            go_roundw
            case rel => exact ⟨q + 1, by omega, by go_num, by rw [HX2.out]; exact HO, HU2⟩
            case measure => simp [intOf]; omega
        · obtain rfl : q = m := by omega
          obtain ⟨po, co, rfl, hio, mo, _⟩ := own_ints HO.out
          have HIO := Lib.hid hio
          clear hio HO
          go_wp2_with fail
          refine (of_any po _ co _ (mexp (mprod K j) q) _ HIO.out (Nat.le_refl _) mo).mono ?_
          rintro e w5 ⟨v5, rfl, hv5, hu5⟩
          have hu6 := (HU.out.trans HU2.out).trans hu5
          have HV5 : Hid (PolyV w w5 v5 (mpol K j)) := by
            unfold mpol
            rw [Hm.out]
            exact ⟨own_more hv5.1 (Nat.le_trans HU1.out.size (HU.out.trans HU2.out).size), hv5.2⟩
          have HR5 := Lib.hid (HR1.out.upd hu6)
          have HU5 := Lib.hid (HU1.out.trans hu6.one)
          clear hv5 hu5 hu6
          go_wp2_with fail
          go_ret
          exact ⟨j, v5, hj1, hj, HRT.out, HD.out, rfl, HV5.out, HR5.out, HU5.out⟩
    · have hj12 : j ≤ 12 := by
        rcases Nat.lt_or_ge j 13 with h | h
        · omega
        · exact absurd (by rw [show j = 13 by omega]; exact rt_13 K) hr
      have t1 : (((rt K j : Nat) : Int) == ((rt K 0 : Nat) : Int)) = false := beq_eq_false_iff_ne.2 (by omega)
      have HI := Lib.hid (row_list HRW.out (mprod_length K j))
      have HWR : ∀ W, Hid (Upd noBlock w1 W → Ready W b n) := fun W hu => HR1.out.upd hu
      have HL : Hid ((mprod K j).length = j + 1) := mprod_length K j
      have HSM := Lib.hid (mprod_small K j)
      have hlt := Lib.hid (rt_lt K j)
      have HNR := Lib.hid hr
      have e1 : powN (low ((rt K j : Nat) : Int)) 2 = rt K (j + 1) := by rw [low_nat _ (rt_lt K j), pow_two _ (rt_pos K j) (rt_lt K j)]; rfl
      have HE1 := Lib.hid e1
      have emp : Hid (wroot (mprod K j) (rt K j) = mprod K (j + 1)) := rfl
      clear hr e1
      go_wp2_with fail
      refine (withRoot_list b n g (j + 1) (mprod K j) (rt K j) _ ((HWR _).out HU.out) HI.out HL.out (by omega) (by omega) HSM.out hlt.out (j + 1)).mono ?_
      rintro e w2 ⟨rfl, hrow2, hu2⟩
      rw [emp.out] at hrow2
      have HU2 := Lib.hid (HU.out.trans hu2)
      have hgs := HU.out.size
      have HRW2 := Lib.hid hrow2
      clear hrow2 hu2
      go_wp2_with fail
      refine (pow_ready b n _ _ _ ((HWR _).out HU2.out)).mono ?_
      rintro e w3 ⟨rfl, _, hu3⟩
      rw [HE1.out]
      have HRW3 := Lib.hid (HRW2.out.of_block (hu3.block _ HRW2.out.lt (fun h => h)))
      have HU3 := Lib.hid (HU2.out.trans hu3)
      clear hu3
      go_wp2_with fail
      go_roundw
      case rel => exact ⟨j + 1, _, by omega, by omega, rfl, rfl, hgs, (fun i h1 h2 => by
        rcases Nat.lt_or_ge i j with h | h
        · exact HD.out i h1 h
        · rw [show i = j by omega]; exact HNR.out), HRW3, HU3⟩
      case measure => simp; omega
end Go.Proofs.Ytpfmdlmnmagkmaa
