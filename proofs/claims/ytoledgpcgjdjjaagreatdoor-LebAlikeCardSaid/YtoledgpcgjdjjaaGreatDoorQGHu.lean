import Derived.Test.YtoledgpcgjdjjaaGreatDoorQGPh
import Derived.Test.YtoledgpcgjdjjaaGreatDoorQGHb
import Derived.Deep.RegionHeld3
import Derived.Test.YtoledgpcgjdjjaaGreatDoorQGPk
/- Walks over package poly: withRoot. -/
namespace Go.Proofs.YtoledgpcgjdjjaaGreatDoor
open Go.RowKit Pm Gfm

def wco (p : List Nat) (r j : Nat) : Nat := (if j = 0 then 0 else p.getD (j - 1) 0) ^^^ (if j < p.length then mul (p.getD j 0) r else 0)
def wroot (p : List Nat) (r : Nat) : List Nat := (List.range (p.length + 1)).map (wco p r)
theorem wroot_length (p : List Nat) (r : Nat) : (wroot p r).length = p.length + 1 := by simp [wroot]
theorem wroot_getD (p : List Nat) (r j : Nat) (h : j < p.length + 1) : (wroot p r).getD j 0 = wco p r j := by
  simp [wroot, List.getD_eq_getElem?_getD, h]
def Small (p : List Nat) : Prop := ∀ x ∈ p, x < 8192
theorem Small.getD {p : List Nat} (h : Small p) (j : Nat) : p.getD j 0 < 8192 := by
  rw [List.getD_eq_getElem?_getD]
  cases hx : p[j]? with
  | none => simp
  | some x => exact h x (List.mem_of_getElem? hx)
theorem wco_lt {p : List Nat} (h : Small p) (r j : Nat) : wco p r j < 8192 := by
  unfold wco
  refine xor_lt _ _ ?_ ?_
  · split
    · omega
    · exact h.getD _
  · split
    · exact mul_lt _ _ (h.getD _)
    · omega
theorem wroot_small {p : List Nat} (h : Small p) (r : Nat) : Small (wroot p r) := fun x hx => by
  obtain ⟨j, _, rfl⟩ := List.mem_map.1 hx
  exact wco_lt h r j
def nats (p : List Nat) : List Int := p.map fun n : Nat => (n : Int)
theorem nats_length (p : List Nat) : (nats p).length = p.length := by simp [nats]
theorem nats_getD (p : List Nat) (j : Nat) : (nats p).getD j 0 = ((p.getD j 0 : Nat) : Int) := by
  simp only [nats, List.getD_eq_getElem?_getD, List.getElem?_map]
  cases p[j]? <;> rfl
theorem low_nat (a : Nat) (h : a < 8192) : low (a : Int) = a := by unfold low; omega
theorem hor_two (r a b : Nat) (hr : r < 8192) (ha : a < 8192) (hb : b < 8192) : hor (low (r : Int)) [(a : Int), (b : Int)] = mul b r ^^^ a := by
  show mul (mul 0 (low r) ^^^ low b) (low r) ^^^ low a = _
  rw [low_nat r hr, low_nat a ha, low_nat b hb, zero_mul, Nat.zero_xor]
def prow (p : List Nat) (r k j : Nat) : Value := .int .i64 ((if j < k then wco p r j else 0 : Nat) : Int)
theorem prow_succ (p : List Nat) (r k j : Nat) : prow p r (k + 1) j = if j = k then .int .i64 ((wco p r k : Nat) : Int) else prow p r k j := by
  unfold prow
  by_cases h : j = k
  · subst h; rw [if_pos (by omega), if_pos rfl]
  · rw [if_neg h]
    have : j < k + 1 ↔ j < k := by omega
    simp only [this]
set_option maxRecDepth 20000 in
set_option maxHeartbeats 1600000 in
theorem withRoot_any (b : Spt) (n : Int) (a : Option Addr) (cap B : Nat) (p : List Nat) (r : Nat) (w : World) (h : Ready w b n) (hr : Ints w B a p.length (nats p)) (hB : B ≤ w.heap.size)
    (h1 : 1 ≤ p.length) (h2 : p.length ≤ 100) (hp : Small p) (hr8 : r < 8192) :
    Calls Tryz.prog 196 #[.pointer (some ⟨b.blk, b.off, none⟩), .slice a p.length cap, .int .i64 (r : Int)] w fun e w' =>
      e = .returned (.slice (some ⟨w.heap.size, 0, none⟩) (p.length + 1) (p.length + 1)) ∧ w'.rowIs w.heap.size 3 (p.length + 1) (prow p r (p.length + 1)) ∧ Upd noBlock w w' := by
  have hmk : ∀ w : World, (Instr.makeSlice 57 (.int .i64 ((p.length : Int) + 1)) (.int .i64 ((p.length : Int) + 1))).run Tryz.prog w = .ok (.slice (some ⟨w.heap.size, 0, none⟩) (p.length + 1) (p.length + 1)) (w.alloc (.cells (madeCells #[.int .i64 0] (p.length + 1)) 3)) := by
    have := run_make_row' (P := Tryz.prog) 57 3 (.int .i64 0) 8 Tryz.underlying57 intCells rfl .i64 .i64 (p.length + 1) (by omega) (by omega)
    exact this
  obtain ⟨O, HO⟩ : ∃ O : Obj, Hid (O = .cells (madeCells #[.int .i64 0] (p.length + 1)) 3) := ⟨_, rfl⟩
  rw [← HO.out] at hmk
  have HRD : Hid (∀ w', Upd noBlock w w' → Ready w' b n) := fun w' hu => h.upd hu
  have HIN : Hid (∀ w', Upd noBlock w w' → ∀ j, j < p.length → ∃ g off, a = some ⟨g, off, none⟩ ∧ g < w.heap.size ∧ w'.cell? ⟨g, off + j, none⟩ = some (.int .i64 ((p.getD j 0 : Nat) : Int))) := fun w' hu j hj => by
    obtain ⟨g, off, e, hg, hc⟩ := (hr.grow hu hB).cell (by omega)
    refine ⟨g, off, e, by omega, ?_⟩
    have := hc j hj
    rw [nats_getD] at this; exact this
  have HU : Hid (Upd noBlock w (w.alloc O)) := (Upd.refl noBlock w).alloc _
  have HRW : Hid ((w.alloc O).rowIs w.heap.size 3 (p.length + 1) (prow p r 0)) := by
    rw [HO.out]
    exact (World.rowIs_made w (.int .i64 0) (p.length + 1) 3).congr (fun i _ => by simp [prow])
  have HP := Lib.hid hp
  obtain ⟨m, Hm⟩ : ∃ m, Hid (p.length = m) := ⟨_, rfl⟩
  rw [Hm.out] at hmk HRW HIN h1 h2
  rw [Hm.out]
  obtain ⟨g, off, rfl, hgw, c0⟩ := HIN.out _ HU.out 0 (by omega)
  have hg0 : (0 : Int) < (m : Int) := by omega
  clear h hr hp
  obtain ⟨q0, Hq0⟩ : ∃ q, Hid (p.getD 0 0 = q) := ⟨_, rfl⟩
  rw [Hq0.out, Nat.add_zero] at c0
  have hu0 : Upd noBlock (w.alloc O) ((w.alloc O).alloc (.cells #[.int .i64 0, .int .i64 (q0 : Int)] 3)) := (Upd.refl _ _).alloc _
  have HU0 := Lib.hid hu0
  have hi2 := ints2 (w.alloc O) 0 (q0 : Int)
  rw [World.size_alloc] at hi2
  have HI2 := Lib.hid hi2
  clear hu0 hi2
  go_enter Tryz.func196, Tryz.ntmps196
  go_wp2_with fail
  refine (eval_ready b n _ _ 2 2 _ _ _ (HRD.out _ (HU.out.trans HU0.out)) HI2.out (by simp) (by unfold maxLen; omega)).mono ?_
  rintro e w3 ⟨rfl, _, hu3⟩
  have hq8 : q0 < 8192 := by rw [← Hq0.out]; exact HP.out.getD 0
  have e3 : hor (low (r : Int)) [0, (q0 : Int)] = wco p r 0 := by
    have := hor_two r 0 q0 hr8 (by omega) hq8
    rw [Int.natCast_zero] at this
    rw [this]
    unfold wco
    rw [if_pos rfl, if_pos (by rw [Hm.out]; omega), Hq0.out, Nat.xor_comm]
  rw [e3]
  have HU3 := Lib.hid ((HU.out.trans HU0.out).trans hu3)
  have HRW3 := Lib.hid ((HRW.out.of_block (HU0.out.block _ HRW.out.lt (fun h => h))).of_block (hu3.block w.heap.size (by simp; omega) (fun h => h)))
  have HRW4 : Hid ((w3.setCell ⟨w.heap.size, 0, none⟩ (.int .i64 ((wco p r 0 : Nat) : Int))).rowIs w.heap.size 3 (m + 1) (prow p r 1)) :=
    (HRW3.out.set 0 _).congr (fun i _ => (prow_succ p r 0 i).symm)
  have HU4 : Hid (Upd noBlock w (w3.setCell ⟨w.heap.size, 0, none⟩ (.int .i64 ((wco p r 0 : Nat) : Int)))) := HU3.out.setCell (.inr (Nat.le_refl _)) _
  have c4 := HRW3.out.cell (i := 0) (by omega)
  have f4 := HRW3.out.frozen 0
  clear hu3 HRW3 HRW HU HU3 HU0 c0 e3 HO
  generalize wco p r 0 = z0 at *
  generalize prow p r 0 0 = v0 at c4
  have hm0 : (0 : Int) < (m : Int) + 1 := by omega
  go_wp2
  clear c4 f4 hmk
  go_loopw [8] (fun i wr => ∃ k : Nat, 1 ≤ k ∧ k ≤ m ∧ i = .int .i64 (k : Int) ∧ Hid (wr.rowIs w.heap.size 3 (m + 1) (prow p r k)) ∧ Hid (Upd noBlock w wr)) (fun i _ => m - (intOf i).toNat)
  case atStart => exact ⟨1, Nat.le_refl _, h1, rfl, HRW4, HU4⟩
  case round =>
    clear HRW4 HU4
    obtain ⟨k, hk1, hk, rfl, HRW, HU⟩ := hrel
    by_cases h0 : k < m
    · obtain ⟨g', off', hgo, _, cb⟩ := HIN.out wr HU.out k h0
      obtain ⟨rfl, rfl⟩ : g = g' ∧ off = off' := by simpa using hgo
      obtain ⟨g', off', hgo2, _, ca⟩ := HIN.out wr HU.out (k - 1) (by omega)
      obtain ⟨rfl, rfl⟩ : g = g' ∧ off = off' := by simpa using hgo2
      obtain ⟨i, Hi⟩ : ∃ i, Hid (k - 1 = i) := ⟨_, rfl⟩
      rw [Hi.out] at ca
      have hik : Hid (k = i + 1) := by have := Hi.out; show k = i + 1; omega
      obtain ⟨qa, Hqa⟩ : ∃ q, Hid (p.getD i 0 = q) := ⟨_, rfl⟩
      obtain ⟨qb, Hqb⟩ : ∃ q, Hid (p.getD k 0 = q) := ⟨_, rfl⟩
      rw [Hqa.out] at ca
      rw [Hqb.out] at cb
      have ha8 : qa < 8192 := by rw [← Hqa.out]; exact HP.out.getD _
      have hb8 : qb < 8192 := by rw [← Hqb.out]; exact HP.out.getD _
      have he : hor (low (r : Int)) [(qa : Int), (qb : Int)] = wco p r k := by
        rw [hor_two r qa qb hr8 ha8 hb8]
        unfold wco
        rw [if_neg (by omega), if_pos (by rw [Hm.out]; omega), Hi.out, Hqa.out, Hqb.out, Nat.xor_comm]
      have HE := Lib.hid he
      have HEV : Hid (∀ (W : World) (h : Nat), Upd noBlock wr W → Ints W W.heap.size (some ⟨h, 0, none⟩) 2 [(qa : Int), (qb : Int)] →
          Calls Tryz.prog 223 #[.pointer (some ⟨b.blk, b.off, none⟩), .slice (some ⟨h, 0, none⟩) 2 2, .int .i64 (r : Int)] W fun e w' => e = .returned (.int .i64 ((wco p r k : Nat) : Int)) ∧ w'.rowIs w.heap.size 3 (m + 1) (prow p r k) ∧ Upd noBlock w w') := fun W h huw hi => by
        have hu := HU.out.trans huw
        have hrow := HRW.out.of_block (huw.block _ HRW.out.lt (fun h => h))
        refine (eval_ready b n _ _ 2 2 _ _ _ (HRD.out _ hu) hi (Nat.le_refl _) (by unfold maxLen; omega)).mono ?_
        rintro e w' ⟨rfl, _, hu2⟩
        exact ⟨by rw [HE.out], hrow.of_block (hu2.block _ hrow.lt (fun h => h)), hu.trans hu2⟩
      have HFIN : Hid (∀ W : World, Upd noBlock w W → W.rowIs w.heap.size 3 (m + 1) (prow p r k) → (W.setCell ⟨w.heap.size, k, none⟩ (.int .i64 ((wco p r k : Nat) : Int))).rowIs w.heap.size 3 (m + 1) (prow p r (k + 1)) ∧ Upd noBlock w (W.setCell ⟨w.heap.size, k, none⟩ (.int .i64 ((wco p r k : Nat) : Int)))) := fun W hu hrow =>
        ⟨(hrow.set k _).congr (fun j _ => (prow_succ p r k j).symm), hu.setCell (.inr (Nat.le_refl _)) _⟩
      have HC : Hid (∀ W : World, W.rowIs w.heap.size 3 (m + 1) (prow p r k) → W.cell? ⟨w.heap.size, k, none⟩ = some (prow p r k k) ∧ W.frozen? ⟨w.heap.size, k, none⟩ = false) := fun W hrow => ⟨hrow.cell (i := k) (by omega), hrow.frozen _⟩
      clear hgo hgo2 he hk1
      generalize wco p r k = z at *
      generalize prow p r k k = vz at *
      have hi1 : (k : Int) < (m : Int) + 1 := by omega
      have hi2 : (k : Int) < (m : Int) := by omega
      have hsub : (k : Int) - 1 = (i : Int) := by have := hik.out; omega
      have hi3 : (i : Int) < (m : Int) := by have := hik.out; omega
      have hi5 : i < m := by have := hik.out; omega
      have hi6 : (0 : Int) ≤ (i : Int) := by omega
      have hi7 : (0 : Int) ≤ (k : Int) := by omega
      have hw1 : IntKind.i64.wrap (i : Int) = (i : Int) := IntWalk.i64_in _ (by omega)
      go_wp2_with fail
      go_region_with (go_at_call 223; refine (HEV.out _ _ (by first | exact ((Upd.refl _ _).drew.alloc _) | exact ((Upd.refl _ _).alloc _).drew | exact ((Upd.refl _ _).alloc _) | exact ((Upd.refl _ _).drew.drew.alloc _)) (by first | exact ints2 _ _ _ | exact (ints2 _ _ _).more (by simp))).mono ?_; rintro e w5 ⟨rfl, hr5, hu5⟩; have c5 := (HC.out _ hr5).1; have f5 := (HC.out _ hr5).2)
      all_goals
        have hend := HFIN.out _ hu5 hr5
        have HE1 := Lib.hid hend.1
        have HE2 := Lib.hid hend.2
        clear hend
        go_wp2
        go_roundw
        case rel => exact ⟨k + 1, by omega, by omega, by go_num, HE1, HE2⟩
        case measure => simp [intOf]; omega
    · obtain rfl : k = m := by omega
      obtain ⟨i, Hi⟩ : ∃ i, Hid (k - 1 = i) := ⟨_, rfl⟩
      obtain ⟨g', off', hgo2, _, ca⟩ := HIN.out wr HU.out (k - 1) (by omega)
      obtain ⟨rfl, rfl⟩ : g = g' ∧ off = off' := by simpa using hgo2
      rw [Hi.out] at ca
      have hik : Hid (k = i + 1) := by have := Hi.out; show k = i + 1; omega
      have hv : p.getD i 0 = wco p r k := by
        unfold wco
        rw [if_neg (by omega), if_neg (by rw [Hm.out]; omega), Hi.out, Nat.xor_zero]
      rw [hv] at ca
      have HR2 : Hid ((wr.setCell ⟨w.heap.size, k, none⟩ (.int .i64 ((wco p r k : Nat) : Int))).rowIs w.heap.size 3 (k + 1) (prow p r (k + 1))) := (HRW.out.set k _).congr (fun j _ => (prow_succ p r k j).symm)
      have HU2 : Hid (Upd noBlock w (wr.setCell ⟨w.heap.size, k, none⟩ (.int .i64 ((wco p r k : Nat) : Int)))) := HU.out.setCell (.inr (Nat.le_refl _)) _
      have c5 := HRW.out.cell (i := k) (by omega)
      have f5 := HRW.out.frozen k
      generalize wco p r k = z at *
      generalize prow p r k k = vz at *
      have hi1 : (k : Int) < (k : Int) + 1 := by omega
      have hsub : (k : Int) - 1 = (i : Int) := by have := hik.out; omega
      have hi3 : (i : Int) < (k : Int) := by have := hik.out; omega
      have hi5 : i < k := by have := hik.out; omega
      clear hgo2 hv
      go_wp2
      go_ret
      exact ⟨rfl, HR2.out, HU2.out⟩
end Go.Proofs.YtoledgpcgjdjjaaGreatDoor

/- Walks over package poly: Minimal. -/
namespace Go.Proofs.YtoledgpcgjdjjaaGreatDoor
open Go.RowKit Pm Gfm

def rt (K : Nat) : Nat → Nat | 0 => pw K | j + 1 => mul (rt K j) (rt K j)
theorem rt_pw (K j : Nat) : rt K j = pw (2 ^ j * K) := by
  induction j with
  | zero => simp [rt]
  | succ j ih =>
    show mul (rt K j) (rt K j) = _
    rw [ih, mul_pw, Nat.pow_succ]
    congr 1
    rw [Nat.mul_comm (2 ^ j) 2, Nat.mul_assoc]; omega
theorem rt_13 (K : Nat) : rt K 13 = rt K 0 := by
  rw [rt_pw, rt_pw, show 2 ^ 13 * K = K + 8191 * K by omega, pw_addk]; simp
theorem rt_lt (K j : Nat) : rt K j < 8192 := by rw [rt_pw]; exact pw_lt _
theorem rt_pos (K j : Nat) : 0 < rt K j := by rw [rt_pw]; exact pw_pos _
theorem pow_two (a : Nat) (h0 : 0 < a) (h : a < 8192) : powN a 2 = mul a a := by
  have e2 : trn 2 = 2 := by decide
  unfold powN
  rw [if_neg (by omega), if_neg (by omega), e2]
  have hl := pw_lg a h0 h
  have hm := mul_pw (lg a) (lg a)
  rw [hl] at hm
  rw [hm]
  generalize lg a = x
  have et : trn ((x : Int) * ((2 : Nat) : Int)) = (x + x) % 8191 := by unfold trn; omega
  rw [et, pw_mod]
def mprod (K : Nat) : Nat → List Nat | 0 => [1] | j + 1 => wroot (mprod K j) (rt K j)
theorem mprod_length (K j : Nat) : (mprod K j).length = j + 1 := by
  induction j with
  | zero => rfl
  | succ j ih => show (wroot _ _).length = _; rw [wroot_length, ih]
theorem mprod_small (K j : Nat) : Small (mprod K j) := by
  induction j with
  | zero => intro x hx; simp [mprod] at hx; omega
  | succ j ih => exact wroot_small ih _
def mexp (l : List Nat) (k : Nat) : List Int := ((List.range k).filter fun i => l.getD i 0 == 1).map fun i : Nat => (i : Int)
theorem mexp_succ (l : List Nat) (k : Nat) : mexp l (k + 1) = if l.getD k 0 = 1 then mexp l k ++ [(k : Int)] else mexp l k := by
  unfold mexp
  rw [List.range_succ, List.filter_append, List.map_append]
  by_cases h : l.getD k 0 = 1
  · have hb : (l.getD k 0 == 1) = true := beq_iff_eq.2 h
    rw [if_pos h, List.filter_cons, if_pos hb]; rfl
  · have hb : ¬ (l.getD k 0 == 1) = true := fun e => h (beq_iff_eq.1 e)
    rw [if_neg h, List.filter_cons, if_neg hb]
    simp
theorem mexp_le (l : List Nat) (k : Nat) : (mexp l k).length ≤ k := by
  unfold mexp
  rw [List.length_map]
  exact Nat.le_trans (List.length_filter_le _ _) (by simp)
def mpol (K j : Nat) : Nat := gat (mexp (mprod K j) (j + 1))
def lrow (l : List Nat) (j : Nat) : Value := .int .i64 ((l.getD j 0 : Nat) : Int)
theorem row_list {w : World} {g m : Nat} {l : List Nat} (h : w.rowIs g 3 m (lrow l)) (hl : l.length = m) : Ints w w.heap.size (some ⟨g, 0, none⟩) m (nats l) :=
  ⟨by rw [nats_length, hl], fun _ => ⟨g, 0, rfl, h.lt, fun i hi => by
    rw [Nat.zero_add, h.cell (i := i) hi, nats_getD]; rfl⟩⟩
theorem prow_list (p : List Nat) (r j : Nat) (h : j < p.length + 1) : prow p r (p.length + 1) j = lrow (wroot p r) j := by
  unfold prow lrow
  rw [if_pos h, wroot_getD p r j h]
theorem ints1 (w : World) (x : Int) : Ints (w.alloc (.cells #[.int .i64 x] 3)) (w.heap.size + 1) (some ⟨w.heap.size, 0, none⟩) 1 [x] :=
  ⟨rfl, fun _ => ⟨w.heap.size, 0, rfl, by omega, fun i hi => by
    rw [cell_of (heap_alloc_new w _)]
    obtain rfl : i = 0 := by omega
    rfl⟩⟩
theorem withRoot_list (b : Spt) (n : Int) (g m : Nat) (l : List Nat) (r : Nat) (w : World) (h : Ready w b n) (hr : Ints w w.heap.size (some ⟨g, 0, none⟩) m (nats l)) (hl : l.length = m) (h1 : 1 ≤ m) (h2 : m ≤ 100) (hp : Small l) (hr8 : r < 8192) (c : Nat) :
    Calls Tryz.prog 196 #[.pointer (some ⟨b.blk, b.off, none⟩), .slice (some ⟨g, 0, none⟩) m c, .int .i64 (r : Int)] w fun e w' =>
      e = .returned (.slice (some ⟨w.heap.size, 0, none⟩) (m + 1) (m + 1)) ∧ w'.rowIs w.heap.size 3 (m + 1) (lrow (wroot l r)) ∧ Upd noBlock w w' := by
  subst hl
  refine (withRoot_any b n _ c w.heap.size l r w h hr (Nat.le_refl _) h1 h2 hp hr8).mono ?_
  rintro e w' ⟨rfl, h1, h2⟩
  exact ⟨rfl, h1.congr (fun i hi => prow_list l r i hi), h2⟩

def MinPost (b : Spt) (n : Int) (K : Nat) (w : World) (e : Ending) (w' : World) : Prop :=
  ∃ J v, 1 ≤ J ∧ J ≤ 13 ∧ rt K J = rt K 0 ∧ (∀ i, 1 ≤ i → i < J → rt K i ≠ rt K 0) ∧ e = .returned v ∧ PolyV w w' v (mpol K J) ∧ Ready w' b n ∧ Upd (oneBlock b.blk) w w'
theorem Upd.one {b : Nat} {w w' : World} (h : Upd noBlock w w') : Upd (oneBlock b) w w' := h.mono (fun _ _ h => h.elim)

set_option maxRecDepth 20000 in
set_option maxHeartbeats 1600000 in
theorem minimal_any (b : Spt) (n k : Int) (w : World) (h : Fld w b n) :
    Calls Tryz.prog 147 #[.pointer (some ⟨b.blk, b.off, none⟩), .int .i64 k] w (MinPost b n (trn k) w) := by
  obtain ⟨i0, hi0, hz0, hz1, hz2⟩ := intParts2
  have HF := Lib.hid h
  clear h
  have e0 : pw (trn k) = rt (trn k) 0 := rfl
  obtain ⟨K, HK⟩ : ∃ K, Hid (trn k = K) := ⟨_, rfl⟩
  rw [HK.out] at e0
  rw [HK.out]
  go_enter Tryz.func147, Tryz.ntmps147
  go_wp2_with fail
  refine (exp_any b n k _ HF.out).mono ?_
  rintro e w1 ⟨rfl, hr1, hu1⟩
  rw [HK.out, e0]
  have HR1 := Lib.hid hr1
  have HU1 := Lib.hid hu1
  clear hr1 hu1 HF e0
  go_wp2_with fail
  have hi1 := ints1 w1 1
  have hun : Upd noBlock w1 (w1.alloc (.cells #[.int .i64 1] 3)) := (Upd.refl _ _).alloc _
  refine (withRoot_list b n w1.heap.size 1 [1] (rt K 0) _ (HR1.out.upd hun) (hi1.more (by simp)) rfl (by omega) (by omega) (mprod_small K 0) (rt_lt K 0) 1).mono ?_
  rintro e w2 ⟨rfl, hrow2, hu2⟩
  have HRW2 := Lib.hid hrow2
  have HU2 := Lib.hid (hun.trans hu2)
  have hg2 : w1.heap.size ≤ (w1.alloc (.cells #[.int .i64 1] 3)).heap.size := by simp
  clear hi1 hun hu2 hrow2
  generalize (w1.alloc (.cells #[.int .i64 1] 3)).heap.size = g2 at *
  go_wp2_with fail
  refine (pow_ready b n _ _ _ (HR1.out.upd HU2.out)).mono ?_
  rintro e w3 ⟨rfl, _, hu3⟩
  have e1 : powN (low ((rt K 0 : Nat) : Int)) 2 = rt K 1 := by rw [low_nat _ (rt_lt K 0), pow_two _ (rt_pos K 0) (rt_lt K 0)]; rfl
  rw [e1]
  have HRW3 := Lib.hid (HRW2.out.of_block (hu3.block _ HRW2.out.lt (fun h => h)))
  have HU3 := Lib.hid (HU2.out.trans hu3)
  clear hu3 HRW2 HU2 e1
  go_wp2_with fail
  have HB1 : Hid (w1.heap.size ≤ g2) := hg2
  clear hg2
  go_loopw [6, 7] (fun pv r wr => ∃ j g : Nat, 1 ≤ j ∧ j ≤ 13 ∧ pv = .slice (some ⟨g, 0, none⟩) (j + 1) (j + 1) ∧ r = .int .i64 ((rt K j : Nat) : Int) ∧ Hid (w1.heap.size ≤ g) ∧ Hid (∀ i, 1 ≤ i → i < j → rt K i ≠ rt K 0) ∧ Hid (wr.rowIs g 3 (j + 1) (lrow (mprod K j))) ∧ Hid (Upd noBlock w1 wr)) (fun pv _ _ => match pv with | .slice _ m _ => 15 - m | _ => 0)
  case atStart => exact ⟨1, g2, by omega, by omega, rfl, rfl, HB1, (fun i h1 h2 => absurd h2 (by omega)), HRW3, HU3⟩
  case round =>
    clear HB1 HRW3 HU3
    obtain ⟨j, g, hj1, hj, rfl, rfl, HB, HD, HRW, HU⟩ := hrel
    by_cases hr : rt K j = rt K 0
    · have HRT := Lib.hid hr
      rw [hr]
      obtain ⟨m, Hm⟩ : ∃ m, Hid (j + 1 = m) := ⟨_, rfl⟩
      rw [Hm.out] at HRW
      rw [Hm.out]
      have hm : m ≤ 14 := by rw [← Hm.out]; omega
      clear hr
      go_wp2_with fail
      obtain ⟨wo, rfl⟩ : ∃ wo : World, wo = wr := ⟨_, rfl⟩
      go_loopw [8, 35] (fun v i wr => ∃ q : Nat, q ≤ m ∧ i = .int .i64 (q : Int) ∧ Hid (wr.ownsRow wo.heap.size 3 1 v (mexp (mprod K j) q).length (vals (mexp (mprod K j) q))) ∧ Hid (Upd noBlock wo wr)) (fun _ i _ => m - (intOf i).toNat)
      case atStart => exact ⟨0, Nat.zero_le _, rfl, World.ownsRow_nil _ _ _ _, Upd.refl _ _⟩
      case round =>
        obtain ⟨q, hq, rfl, HO, HU2⟩ := hrel
        by_cases hqm : q < m
        · have c1 := (HRW.out.of_block (HU2.out.block g HRW.out.lt (fun h => h))).cell (i := q) hqm
          have hle := mexp_le (mprod K j) q
          have HX := Lib.hid (mexp_succ (mprod K j) q)
          by_cases h1 : (mprod K j).getD q 0 = 1
          · have c2 : wr.cell? ⟨g, q, none⟩ = some (.int .i64 1) := by rw [c1]; unfold lrow; rw [h1]; rfl
            have HX2 : Hid (mexp (mprod K j) (q + 1) = mexp (mprod K j) q ++ [(q : Int)]) := by have h := HX.out; rw [if_pos h1] at h; exact h
            have HIn := Lib.hid (ints1 wr (q : Int))
            have HO2 := Lib.hid (HO.out.alloc (.cells #[.int .i64 (q : Int)] 3))
            have HU3 := Lib.hid (HU2.out.alloc (.cells #[.int .i64 (q : Int)] 3))
            have hsz := HU2.out.size
            have HLE := Lib.hid hle
            clear c1 h1 HX HO HU2 hle
            go_wp2_with (at_builtin; refine wpList_append_ints _ rfl (.tmp 42) (.tmp 44) _ rfl wo.heap.size 3 i0 _ Tryz.underlying57 hi0 hz0 hz1 hz2 rfl _ _ (vals (mexp (mprod K j) q)) rfl HO2.out (wr.heap.size + 1) (some ⟨wr.heap.size, 0, none⟩) 1 1 [(q : Int)] rfl HIn.out (by have := HLE.out; unfold maxLen; omega) (by have := HLE.out; omega) (by simp; omega) ?_; intro v3 w3 hown3 hg3 _)
            go_roundw
            case rel =>
              refine ⟨q + 1, by omega, by go_num, ?_, ?_⟩
              · have e : (mexp (mprod K j) (q + 1)).length = (mexp (mprod K j) q).length + 1 := by rw [HX2.out]; simp
                have e2 : vals (mexp (mprod K j) (q + 1)) = vals (mexp (mprod K j) q) ++ vals [(q : Int)] := by rw [HX2.out]; simp [vals]
                rw [e, e2]
                exact hown3
              · exact HU3.out.grownOwn hg3 (fun k hk => (HO2.out.lt k hk).1)
            case measure => simp [intOf]; omega
          · have c2 : wr.cell? ⟨g, q, none⟩ = some (.int .i64 (((mprod K j).getD q 0 : Nat) : Int)) := c1
            have t1 : ((((mprod K j).getD q 0 : Nat) : Int) == 1) = false := beq_eq_false_iff_ne.2 (by omega)
            have HX2 : Hid (mexp (mprod K j) (q + 1) = mexp (mprod K j) q) := by have h := HX.out; rw [if_neg h1] at h; exact h
            clear c1 h1 HX hle
            generalize (mprod K j).getD q 0 = z at *
            go_wp2
            go_roundw
            case rel => exact ⟨q + 1, by omega, by go_num, by rw [HX2.out]; exact HO, HU2⟩
            case measure => simp [intOf]; omega
        · obtain rfl : q = m := by omega
          obtain ⟨po, co, rfl, hio, mo, _⟩ := own_ints HO.out
          have HIO := Lib.hid hio
          clear hio HO
          go_wp2_with fail
          refine (of_any po _ co _ (mexp (mprod K j) q) _ HIO.out (Nat.le_refl _) mo).mono ?_
          rintro e w5 ⟨v5, rfl, hv5, hu5⟩
          have hu6 := (HU.out.trans HU2.out).trans hu5
          have HV5 : Hid (PolyV w w5 v5 (mpol K j)) := by
            unfold mpol
            rw [Hm.out]
            exact ⟨own_more hv5.1 (Nat.le_trans HU1.out.size (HU.out.trans HU2.out).size), hv5.2⟩
          have HR5 := Lib.hid (HR1.out.upd hu6)
          have HU5 := Lib.hid (HU1.out.trans hu6.one)
          clear hv5 hu5 hu6
          go_wp2_with fail
          go_ret
          exact ⟨j, v5, hj1, hj, HRT.out, HD.out, rfl, HV5.out, HR5.out, HU5.out⟩
    · have hj12 : j ≤ 12 := by
        rcases Nat.lt_or_ge j 13 with h | h
        · omega
        · exact absurd (by rw [show j = 13 by omega]; exact rt_13 K) hr
      have t1 : (((rt K j : Nat) : Int) == ((rt K 0 : Nat) : Int)) = false := beq_eq_false_iff_ne.2 (by omega)
      have HI := Lib.hid (row_list HRW.out (mprod_length K j))
      have HWR : ∀ W, Hid (Upd noBlock w1 W → Ready W b n) := fun W hu => HR1.out.upd hu
      have HL : Hid ((mprod K j).length = j + 1) := mprod_length K j
      have HSM := Lib.hid (mprod_small K j)
      have hlt := Lib.hid (rt_lt K j)
      have HNR := Lib.hid hr
      have e1 : powN (low ((rt K j : Nat) : Int)) 2 = rt K (j + 1) := by rw [low_nat _ (rt_lt K j), pow_two _ (rt_pos K j) (rt_lt K j)]; rfl
      have HE1 := Lib.hid e1
      have emp : Hid (wroot (mprod K j) (rt K j) = mprod K (j + 1)) := rfl
      clear hr e1
      go_wp2_with fail
      refine (withRoot_list b n g (j + 1) (mprod K j) (rt K j) _ ((HWR _).out HU.out) HI.out HL.out (by omega) (by omega) HSM.out hlt.out (j + 1)).mono ?_
      rintro e w2 ⟨rfl, hrow2, hu2⟩
      rw [emp.out] at hrow2
      have HU2 := Lib.hid (HU.out.trans hu2)
      have hgs := HU.out.size
      have HRW2 := Lib.hid hrow2
      clear hrow2 hu2
      go_wp2_with fail
      refine (pow_ready b n _ _ _ ((HWR _).out HU2.out)).mono ?_
      rintro e w3 ⟨rfl, _, hu3⟩
      rw [HE1.out]
      have HRW3 := Lib.hid (HRW2.out.of_block (hu3.block _ HRW2.out.lt (fun h => h)))
      have HU3 := Lib.hid (HU2.out.trans hu3)
      clear hu3
      go_wp2_with fail
      go_roundw
      case rel => exact ⟨j + 1, _, by omega, by omega, rfl, rfl, hgs, (fun i h1 h2 => by
        rcases Nat.lt_or_ge i j with h | h
        · exact HD.out i h1 h
        · rw [show i = j by omega]; exact HNR.out), HRW3, HU3⟩
      case measure => simp; omega
end Go.Proofs.YtoledgpcgjdjjaaGreatDoor

/- Walks over package poly: Generator. -/
namespace Go.Proofs.YtoledgpcgjdjjaaGreatDoor
open Go.RowKit Pm Gfm

def slowB (K : Nat) : Nat → Bool | 0 => true | j + 1 => slowB K j && (j == 0 || !(rt K j == rt K 0))
theorem slowB_spec (K n : Nat) (h : slowB K n = true) : ∀ j, 1 ≤ j → j < n → rt K j ≠ rt K 0 := by
  induction n with
  | zero => intro j _ h; omega
  | succ n ih =>
    rw [slowB, Bool.and_eq_true] at h
    intro j h1 h2
    rcases Nat.lt_or_ge j n with h3 | h3
    · exact ih h.1 j h1 h3
    · obtain rfl : j = n := by omega
      intro e
      have := h.2
      rw [e] at this
      simp at this
      omega
theorem odd_slow : ∀ i : Fin 8, slowB (2 * i.val + 1) 13 = true := by decide +kernel
theorem odd_13 (i : Nat) (h : i < 8) (J : Nat) (h1 : 1 ≤ J) (h2 : J ≤ 13) (h3 : rt (2 * i + 1) J = rt (2 * i + 1) 0) : J = 13 := by
  rcases Nat.lt_or_ge J 13 with h4 | h4
  · exact absurd h3 (slowB_spec _ 13 (odd_slow ⟨i, h⟩) J h1 h4)
  · omega
def mp (i : Nat) : Nat := mpol (2 * i + 1) 13
theorem mp_deg : ∀ i : Fin 8, 2 ^ 13 ≤ mp i.val ∧ mp i.val < 2 ^ 14 := by decide +kernel
def GG : Nat → Nat | 0 => gat [0] | i + 1 => pmul (GG i) (mp i)
theorem GG_deg (i : Nat) (h : i ≤ 8) : 2 ^ (13 * i) ≤ GG i ∧ GG i < 2 ^ (13 * i + 1) := by
  induction i with
  | zero => decide
  | succ i ih =>
    obtain ⟨h1, h2⟩ := ih (by omega)
    obtain ⟨h3, h4⟩ := mp_deg ⟨i, by omega⟩
    have := pmul_deg (GG i) (mp i) (13 * i) 13 h1 h2 h3 h4 (by omega)
    rw [show 13 * (i + 1) = 13 * i + 13 by omega]
    exact this
theorem GG_top (i : Nat) (h : i ≤ 8) : GG i < 2 ^ top := Nat.lt_of_lt_of_le (GG_deg i h).2 (Nat.pow_le_pow_right (by omega) (by unfold top; omega))
def GP (w w' : World) (v : Value) (P : Nat) : Prop := ∃ p n c, v = .slice p n c ∧ Ints w' w'.heap.size p n (exps P) ∧ n ≤ maxLen ∧ n ≤ c ∧ ∀ g, p.map Addr.block = some g → w.heap.size ≤ g
theorem own_cap {w : World} {base e n m k : Nat} {a : Option Addr} {xs : List Value} (h : w.ownsRow base e 1 (.slice a m k) n xs) : n ≤ k := by
  obtain ⟨_, h⟩ := h
  rcases h with ⟨_, rfl⟩ | ⟨g, cap, cur, e, _, _, h, _⟩
  · exact Nat.zero_le _
  · cases e; exact h
theorem PolyV.gp {w0 w w' : World} {v : Value} {P : Nat} (h : PolyV w w' v P) (hs : w0.heap.size ≤ w.heap.size) : GP w0 w' v P := by
  obtain ⟨a, c, rfl, h1, h2, h3⟩ := own_ints h.1
  exact ⟨a, _, c, rfl, h1, h2, own_cap h.1, fun g hg => Nat.le_trans hs (h3 g hg).1⟩
attribute [local irreducible] Pm.exps pmul mp GG mpol

set_option maxRecDepth 20000 in
set_option maxHeartbeats 1600000 in
theorem generator_any (b : Spt) (n : Int) (t : Nat) (w : World) (h : Fld w b n) (ht1 : 1 ≤ t) (ht8 : t ≤ 8) :
    Calls Tryz.prog 111 #[.pointer (some ⟨b.blk, b.off, none⟩), .int .i64 (t : Int)] w fun e w' => ∃ v, e = .returned (.tuple #[v, .bool true]) ∧ GP w w' v (GG t) ∧ Fld w' b n ∧ w'.cell? ⟨b.blk, b.off, none⟩ = some (.int .u32 1) ∧ Upd (oneBlock b.blk) w w' := by
  have hbl := h.lt
  have HF := Lib.hid h
  have hun : Upd noBlock w (w.alloc (.cells #[.int .i64 0] 3)) := (Upd.refl _ _).alloc _
  have HUN := Lib.hid hun
  have HI := Lib.hid ((ints1 w 0).more (show w.heap.size + 1 ≤ (w.alloc (.cells #[.int .i64 0] 3)).heap.size by simp))
  have HG0 : Hid (gat [0] = GG 0) := by show _ = _; unfold GG; rfl
  have t1 : decide ((t : Int) < 1) = false := decide_eq_false (by omega)
  have t2 : decide ((8 : Int) < (t : Int)) = false := decide_eq_false (by omega)
  clear h hun
  go_enter Tryz.func111, Tryz.ntmps111
  go_wp2_with fail
  refine (of_any _ 1 1 _ [0] _ HI.out (Nat.le_refl _) (by unfold maxLen; omega)).mono ?_
  rintro e w1 ⟨v1, rfl, hv1, hu1⟩
  rw [HG0.out] at hv1
  have HV1 : Hid (GP w w1 v1 (GG 0)) := hv1.gp (by simp)
  have HU1 := Lib.hid ((HUN.out.trans hu1).one (b := b.blk))
  have HF1 := Lib.hid (HF.out.grow (HUN.out.trans hu1))
  clear hv1 hu1 HF HI HUN t1 t2
  go_wp2_with fail
  go_loopw [6, 7] (fun v k wr => ∃ i : Nat, i ≤ t ∧ k = .int .i64 (2 * (i : Int) + 1) ∧ Hid (GP w wr v (GG i)) ∧ Hid (Fld wr b n) ∧ Hid (0 < i → wr.cell? ⟨b.blk, b.off, none⟩ = some (.int .u32 1)) ∧ Hid (Upd (oneBlock b.blk) w wr)) (fun _ k _ => (17 - intOf k).toNat)
  case atStart => exact ⟨0, Nat.zero_le _, rfl, HV1, HF1, fun h => absurd h (Nat.lt_irrefl _), HU1⟩
  case round =>
    clear HV1 HF1 HU1
    obtain ⟨i, hi, rfl, HV, HF, HONE, HU⟩ := hrel
    by_cases h0 : i < t
    · obtain ⟨p, m, c, rfl, hi1, hm, _, hg⟩ := HV.out
      have HIP := Lib.hid hi1
      have HPG := Lib.hid hg
      have hlt : 2 * (i : Int) + 1 < 2 * (t : Int) := by omega
      have etr : trn (2 * (i : Int) + 1) = 2 * i + 1 := by unfold trn; omega
      have HM := Lib.hid (minimal_any b n (2 * (i : Int) + 1) wr HF.out)
      rw [etr] at HM
      have h8 : i < 8 := by omega
      have HH8 := Lib.hid h8
      clear hi1 hg etr h8 HF HV
      go_wp2_with fail
      refine HM.out.mono ?_
      rintro e w2 ⟨J, v2, hJ1, hJ2, hJ3, _, rfl, hv2, hr2, hu2⟩
      obtain rfl := odd_13 i HH8.out J hJ1 hJ2 hJ3
      have hv3 : PolyV wr w2 v2 (mp i) := by unfold mp; exact hv2
      obtain ⟨p2, c2, rfl, hi2, m2, _⟩ := own_ints hv3.1
      have HI2 := Lib.hid hi2
      have HIP2 := Lib.hid ((HIP.out.upd hu2 (Nat.le_refl _) (fun g hg _ e => by
        have e' : g = b.blk := e
        have := HPG.out g hg
        omega)).more hu2.size)
      have HF2 := Lib.hid hr2.fld
      have HO2 : Hid (w2.cell? ⟨b.blk, b.off, none⟩ = some (.int .u32 1)) := by obtain ⟨_, _, hfb, _⟩ := hr2; exact hfb.c0
      have HU2 := Lib.hid (HU.out.trans hu2)
      have d1 := GG_deg i (by have := HH8.out; omega)
      have d2 := mp_deg ⟨i, HH8.out⟩
      have g1 : gat (exps (GG i)) = GG i := gat_exps _ (GG_top i (by have := HH8.out; omega))
      have g2 : gat (exps (mp i)) = mp i := gat_exps _ hv3.2
      have HMUL := Lib.hid (pmul_ok p m c w2.heap.size (exps (GG i)) p2 _ c2 w2.heap.size (exps (mp i)) w2 HIP2.out (Nat.le_refl _) hm HI2.out (Nat.le_refl _) m2 (13 * i) 13 (by rw [g1]; exact d1.1) (by rw [g1]; exact d1.2) (by rw [g2]; exact d2.1) (by rw [g2]; exact d2.2) (by have := HH8.out; omega))
      rw [g1, g2] at HMUL
      have HGS : Hid (pmul (GG i) (mp i) = GG (i + 1)) := by show _ = _; conv => rhs; unfold GG
      clear hv2 hv3 hi2 hr2 hu2 hJ1 hJ2 hJ3 d1 d2 g1 g2
      go_wp2_with fail
      refine HMUL.out.mono ?_
      rintro e w3 ⟨v3, rfl, hv3, hu3⟩
      rw [HGS.out] at hv3
      have HV3 : Hid (GP w w3 v3 (GG (i + 1))) := hv3.gp HU2.out.size
      have HF3 := Lib.hid (HF2.out.grow hu3)
      have HO3 : Hid (w3.cell? ⟨b.blk, b.off, none⟩ = some (.int .u32 1)) := (World.cell?_of_block (hu3.block b.blk HF2.out.lt (fun h => h))).trans HO2.out
      have HU3 := Lib.hid (HU2.out.trans hu3.one)
      clear hv3 hu3
      go_wp2_with fail
      go_roundw
      case rel => exact ⟨i + 1, by omega, by go_num, HV3, HF3, fun _ => HO3.out, HU3⟩
      case measure => simp [intOf]; omega
    · obtain rfl : i = t := by omega
      have hlt : ¬ (2 * (i : Int) + 1 < 2 * (i : Int)) := by omega
      go_wp2_with fail
      go_ret2
      exact ⟨_, rfl, HV.out, HF.out, HONE.out (by omega), HU.out⟩
end Go.Proofs.YtoledgpcgjdjjaaGreatDoor

/- What makes codes, in numbers: its values at the first powers are 0. No Go in sight. -/
namespace Go.Proofs.YtoledgpcgjdjjaaGreatDoor
open Pm Gfm

def gv : List Nat := [1, 8219, 81073483, 802986049005, 5719866781435563, 70802422373250291595, 600861845307791167304061, 2475918012808473855665188261, 22023288022493040599844014848803]
def mv : List Nat := [8219, 9905, 10643, 10063, 12769, 9123, 12409, 8895]
theorem mp_val : ∀ i : Fin 8, mp i.val = mv.getD i.val 0 := by decide +kernel
theorem gv_step : ∀ i : Fin 8, cm (lst 128 (gv.getD i.val 0)) (mv.getD i.val 0) = gv.getD (i.val + 1) 0 := by decide +kernel
theorem gv_lt : ∀ i : Fin 9, gv.getD i.val 0 < 2 ^ 128 := by decide +kernel
theorem exps_128 (P : Nat) (h : P < 2 ^ 128) : exps P = lst 128 P := lst_up 128 top P h (by unfold top; omega)
theorem GG_val (i : Nat) (h : i ≤ 8) : GG i = gv.getD i 0 := by
  induction i with
  | zero => decide
  | succ i ih =>
    have e : GG (i + 1) = cm (exps (GG i)) (mp i) := rfl
    rw [e, ih (by omega), exps_128 _ (gv_lt ⟨i, by omega⟩), mp_val ⟨i, by omega⟩, gv_step ⟨i, by omega⟩]
def evs (K : Nat) : List Int → Nat | [] => 0 | e :: l => pw (trn ((K : Int) * e)) ^^^ evs K l
theorem pw_trn (K n : Nat) : pw (trn ((K : Int) * (n : Int))) = pw (K * n) := by
  have e : trn ((K : Int) * (n : Int)) = (K * n) % 8191 := by
    rw [← Int.natCast_mul]
    generalize K * n = m
    unfold trn; omega
  rw [e, pw_mod]
def runA (P x : Nat) : Nat → Nat → Nat → Nat → Nat
  | 0, _, s, _ => s
  | f + 1, e, s, X => match (if P.testBit e then ((s - 1) ^^^ X) + 1 else s), mul X x with
    | s' + 1, q + 1 => runA P x f (e + 1) (s' + 1) (q + 1)
    | _, _ => 0
theorem runA_spec (P K : Nat) : ∀ f e S, S = evs K (lst e P) → runA P (pw K) f e (S + 1) (pw (K * e)) = evs K (lst (e + f) P) + 1 := by
  intro f
  induction f with
  | zero => intro e S h; show S + 1 = evs K (lst e P) + 1; rw [h]
  | succ f ih =>
    intro e S h
    have hm : mul (pw (K * e)) (pw K) = pw (K * (e + 1)) := by rw [mul_pw, Nat.mul_succ]
    have hl : lst (e + 1) P = if P.testBit e then (e : Int) :: lst e P else lst e P := rfl
    have hs : (if P.testBit e then ((S + 1 - 1) ^^^ pw (K * e)) + 1 else S + 1) = evs K (lst (e + 1) P) + 1 := by
      rw [hl]
      by_cases hb : P.testBit e = true
      · rw [if_pos hb, if_pos hb, Nat.add_sub_cancel]
        show _ = (pw (trn ((K : Int) * (e : Int))) ^^^ evs K (lst e P)) + 1
        rw [pw_trn, h, Nat.xor_comm]
      · rw [if_neg hb, if_neg hb, h]
    have hp := pw_pos (K * (e + 1))
    obtain ⟨q, hq⟩ : ∃ q, pw (K * (e + 1)) = q + 1 := ⟨pw (K * (e + 1)) - 1, by omega⟩
    unfold runA
    rw [hs, hm, hq]
    show runA P (pw K) f (e + 1) (evs K (lst (e + 1) P) + 1) (q + 1) = _
    rw [← hq, ih (e + 1) _ rfl]
    congr 3
    omega
theorem roots_run : ∀ T : Fin 8, ∀ K : Fin 16, K.val < 2 * (T.val + 1) → runA (gv.getD (T.val + 1) 0) (pw (K.val + 1)) 105 0 1 1 = 1 := by decide +kernel
theorem lst_105 : ∀ T : Fin 9, lst 128 (gv.getD T.val 0) = lst 105 (gv.getD T.val 0) := by decide +kernel
theorem roots_zero (T K : Nat) (hT1 : 1 ≤ T) (hT8 : T ≤ 8) (hK1 : 1 ≤ K) (hK2 : K ≤ 2 * T) : evs K (exps (GG T)) = 0 := by
  rw [GG_val T hT8, exps_128 _ (gv_lt ⟨T, by omega⟩), lst_105 ⟨T, by omega⟩]
  have h := roots_run ⟨T - 1, by omega⟩ ⟨K - 1, by omega⟩ (by show K - 1 < 2 * (T - 1 + 1); omega)
  have e1 : T - 1 + 1 = T := by omega
  have e2 : K - 1 + 1 = K := by omega
  simp only [e1, e2] at h
  have hs := runA_spec (gv.getD T 0) K 105 0 0 rfl
  rw [Nat.mul_zero] at hs
  have e3 : pw 0 = 1 := rfl
  rw [e3, Nat.zero_add, Nat.zero_add, h] at hs
  show evs K (lst 105 (gv.getD T 0)) = 0
  omega
end Go.Proofs.YtoledgpcgjdjjaaGreatDoor

/- Walks over package poly: withRoot; Walks over package poly: Minimal; Walks over package poly: Generator; What makes codes, in numbers: its values at the first powers are 0. No Go in sight; Products of x + root over a field: their values, squares, coefficients. No Go in sight; The document's least polynomial: elimination, in plain numbers. No Go in sight; Elimination over bits: rows with distinct leading bits. Plain; The document's elimination: what its rounds keep. Plain. -/
namespace Go.Proofs.YtoledgpcgjdjjaaGreatDoor.Doc
open Go.RowKit Pm Gfm

def wco (p : List Nat) (r j : Nat) : Nat := (if j = 0 then 0 else p.getD (j - 1) 0) ^^^ (if j < p.length then mul (p.getD j 0) r else 0)
def wroot (p : List Nat) (r : Nat) : List Nat := (List.range (p.length + 1)).map (wco p r)
theorem wroot_length (p : List Nat) (r : Nat) : (wroot p r).length = p.length + 1 := by simp [wroot]
theorem wroot_getD (p : List Nat) (r j : Nat) (h : j < p.length + 1) : (wroot p r).getD j 0 = wco p r j := by
  simp [wroot, List.getD_eq_getElem?_getD, h]
def Small (p : List Nat) : Prop := ∀ x ∈ p, x < 8192
theorem Small.getD {p : List Nat} (h : Small p) (j : Nat) : p.getD j 0 < 8192 := by
  rw [List.getD_eq_getElem?_getD]
  cases hx : p[j]? with
  | none => simp
  | some x => exact h x (List.mem_of_getElem? hx)
theorem wco_lt {p : List Nat} (h : Small p) (r j : Nat) : wco p r j < 8192 := by
  unfold wco
  refine xor_lt _ _ ?_ ?_
  · split
    · omega
    · exact h.getD _
  · split
    · exact mul_lt _ _ (h.getD _)
    · omega
theorem wroot_small {p : List Nat} (h : Small p) (r : Nat) : Small (wroot p r) := fun x hx => by
  obtain ⟨j, _, rfl⟩ := List.mem_map.1 hx
  exact wco_lt h r j
def nats (p : List Nat) : List Int := p.map fun n : Nat => (n : Int)
theorem nats_length (p : List Nat) : (nats p).length = p.length := by simp [nats]
theorem nats_getD (p : List Nat) (j : Nat) : (nats p).getD j 0 = ((p.getD j 0 : Nat) : Int) := by
  simp only [nats, List.getD_eq_getElem?_getD, List.getElem?_map]
  cases p[j]? <;> rfl
theorem low_nat (a : Nat) (h : a < 8192) : low (a : Int) = a := by unfold low; omega
theorem hor_two (r a b : Nat) (hr : r < 8192) (ha : a < 8192) (hb : b < 8192) : hor (low (r : Int)) [(a : Int), (b : Int)] = mul b r ^^^ a := by
  show mul (mul 0 (low r) ^^^ low b) (low r) ^^^ low a = _
  rw [low_nat r hr, low_nat a ha, low_nat b hb, zero_mul, Nat.zero_xor]
def prow (p : List Nat) (r k j : Nat) : Value := .int .i64 ((if j < k then wco p r j else 0 : Nat) : Int)
theorem prow_succ (p : List Nat) (r k j : Nat) : prow p r (k + 1) j = if j = k then .int .i64 ((wco p r k : Nat) : Int) else prow p r k j := by
  unfold prow
  by_cases h : j = k
  · subst h; rw [if_pos (by omega), if_pos rfl]
  · rw [if_neg h]
    have : j < k + 1 ↔ j < k := by omega
    simp only [this]
set_option maxRecDepth 20000 in
set_option maxHeartbeats 1600000 in
theorem withRoot_any (b : Nat) (n : Int) (a : Option Addr) (cap B : Nat) (p : List Nat) (r : Nat) (w : World) (h : Ready w b n) (hr : Ints w B a p.length (nats p)) (hB : B ≤ w.heap.size)
    (h1 : 1 ≤ p.length) (h2 : p.length ≤ 100) (hp : Small p) (hr8 : r < 8192) :
    Calls Tryz.prog 196 #[.pointer (some ⟨b, 0, none⟩), .slice a p.length cap, .int .i64 (r : Int)] w fun e w' =>
      e = .returned (.slice (some ⟨w.heap.size, 0, none⟩) (p.length + 1) (p.length + 1)) ∧ w'.rowIs w.heap.size 3 (p.length + 1) (prow p r (p.length + 1)) ∧ Upd noBlock w w' := by
  have hmk : ∀ w : World, (Instr.makeSlice 57 (.int .i64 ((p.length : Int) + 1)) (.int .i64 ((p.length : Int) + 1))).run Tryz.prog w = .ok (.slice (some ⟨w.heap.size, 0, none⟩) (p.length + 1) (p.length + 1)) (w.alloc (.cells (madeCells #[.int .i64 0] (p.length + 1)) 3)) := by
    have := run_make_row' (P := Tryz.prog) 57 3 (.int .i64 0) 8 Tryz.underlying57 intCells rfl .i64 .i64 (p.length + 1) (by omega) (by omega)
    exact this
  obtain ⟨O, HO⟩ : ∃ O : Obj, Hid (O = .cells (madeCells #[.int .i64 0] (p.length + 1)) 3) := ⟨_, rfl⟩
  rw [← HO.out] at hmk
  have HRD : Hid (∀ w', Upd noBlock w w' → Ready w' b n) := fun w' hu => h.upd hu
  have HIN : Hid (∀ w', Upd noBlock w w' → ∀ j, j < p.length → ∃ g off, a = some ⟨g, off, none⟩ ∧ g < w.heap.size ∧ w'.cell? ⟨g, off + j, none⟩ = some (.int .i64 ((p.getD j 0 : Nat) : Int))) := fun w' hu j hj => by
    obtain ⟨g, off, e, hg, hc⟩ := (hr.grow hu hB).cell (by omega)
    refine ⟨g, off, e, by omega, ?_⟩
    have := hc j hj
    rw [nats_getD] at this; exact this
  have HU : Hid (Upd noBlock w (w.alloc O)) := (Upd.refl noBlock w).alloc _
  have HRW : Hid ((w.alloc O).rowIs w.heap.size 3 (p.length + 1) (prow p r 0)) := by
    rw [HO.out]
    exact (World.rowIs_made w (.int .i64 0) (p.length + 1) 3).congr (fun i _ => by simp [prow])
  have HP := Lib.hid hp
  obtain ⟨m, Hm⟩ : ∃ m, Hid (p.length = m) := ⟨_, rfl⟩
  rw [Hm.out] at hmk HRW HIN h1 h2
  rw [Hm.out]
  obtain ⟨g, off, rfl, hgw, c0⟩ := HIN.out _ HU.out 0 (by omega)
  have hg0 : (0 : Int) < (m : Int) := by omega
  clear h hr hp
  obtain ⟨q0, Hq0⟩ : ∃ q, Hid (p.getD 0 0 = q) := ⟨_, rfl⟩
  rw [Hq0.out, Nat.add_zero] at c0
  have hu0 : Upd noBlock (w.alloc O) ((w.alloc O).alloc (.cells #[.int .i64 0, .int .i64 (q0 : Int)] 3)) := (Upd.refl _ _).alloc _
  have HU0 := Lib.hid hu0
  have hi2 := ints2 (w.alloc O) 0 (q0 : Int)
  rw [World.size_alloc] at hi2
  have HI2 := Lib.hid hi2
  clear hu0 hi2
  go_enter Tryz.func196, Tryz.ntmps196
  go_wp2_with fail
  refine (eval_ready b n _ _ 2 2 _ _ _ (HRD.out _ (HU.out.trans HU0.out)) HI2.out (by simp) (by unfold maxLen; omega)).mono ?_
  rintro e w3 ⟨rfl, _, hu3⟩
  have hq8 : q0 < 8192 := by rw [← Hq0.out]; exact HP.out.getD 0
  have e3 : hor (low (r : Int)) [0, (q0 : Int)] = wco p r 0 := by
    have := hor_two r 0 q0 hr8 (by omega) hq8
    rw [Int.natCast_zero] at this
    rw [this]
    unfold wco
    rw [if_pos rfl, if_pos (by rw [Hm.out]; omega), Hq0.out, Nat.xor_comm]
  rw [e3]
  have HU3 := Lib.hid ((HU.out.trans HU0.out).trans hu3)
  have HRW3 := Lib.hid ((HRW.out.of_block (HU0.out.block _ HRW.out.lt (fun h => h))).of_block (hu3.block w.heap.size (by simp; omega) (fun h => h)))
  have HRW4 : Hid ((w3.setCell ⟨w.heap.size, 0, none⟩ (.int .i64 ((wco p r 0 : Nat) : Int))).rowIs w.heap.size 3 (m + 1) (prow p r 1)) :=
    (HRW3.out.set 0 _).congr (fun i _ => (prow_succ p r 0 i).symm)
  have HU4 : Hid (Upd noBlock w (w3.setCell ⟨w.heap.size, 0, none⟩ (.int .i64 ((wco p r 0 : Nat) : Int)))) := HU3.out.setCell (.inr (Nat.le_refl _)) _
  have c4 := HRW3.out.cell (i := 0) (by omega)
  have f4 := HRW3.out.frozen 0
  clear hu3 HRW3 HRW HU HU3 HU0 c0 e3 HO
  generalize wco p r 0 = z0 at *
  generalize prow p r 0 0 = v0 at c4
  have hm0 : (0 : Int) < (m : Int) + 1 := by omega
  go_wp2
  clear c4 f4 hmk
  go_loopw [8] (fun i wr => ∃ k : Nat, 1 ≤ k ∧ k ≤ m ∧ i = .int .i64 (k : Int) ∧ Hid (wr.rowIs w.heap.size 3 (m + 1) (prow p r k)) ∧ Hid (Upd noBlock w wr)) (fun i _ => m - (intOf i).toNat)
  case atStart => exact ⟨1, Nat.le_refl _, h1, rfl, HRW4, HU4⟩
  case round =>
    clear HRW4 HU4
    obtain ⟨k, hk1, hk, rfl, HRW, HU⟩ := hrel
    by_cases h0 : k < m
    · obtain ⟨g', off', hgo, _, cb⟩ := HIN.out wr HU.out k h0
      obtain ⟨rfl, rfl⟩ : g = g' ∧ off = off' := by simpa using hgo
      obtain ⟨g', off', hgo2, _, ca⟩ := HIN.out wr HU.out (k - 1) (by omega)
      obtain ⟨rfl, rfl⟩ : g = g' ∧ off = off' := by simpa using hgo2
      obtain ⟨i, Hi⟩ : ∃ i, Hid (k - 1 = i) := ⟨_, rfl⟩
      rw [Hi.out] at ca
      have hik : Hid (k = i + 1) := by have := Hi.out; show k = i + 1; omega
      obtain ⟨qa, Hqa⟩ : ∃ q, Hid (p.getD i 0 = q) := ⟨_, rfl⟩
      obtain ⟨qb, Hqb⟩ : ∃ q, Hid (p.getD k 0 = q) := ⟨_, rfl⟩
      rw [Hqa.out] at ca
      rw [Hqb.out] at cb
      have ha8 : qa < 8192 := by rw [← Hqa.out]; exact HP.out.getD _
      have hb8 : qb < 8192 := by rw [← Hqb.out]; exact HP.out.getD _
      have he : hor (low (r : Int)) [(qa : Int), (qb : Int)] = wco p r k := by
        rw [hor_two r qa qb hr8 ha8 hb8]
        unfold wco
        rw [if_neg (by omega), if_pos (by rw [Hm.out]; omega), Hi.out, Hqa.out, Hqb.out, Nat.xor_comm]
      have HE := Lib.hid he
      have HEV : Hid (∀ (W : World) (h : Nat), Upd noBlock wr W → Ints W W.heap.size (some ⟨h, 0, none⟩) 2 [(qa : Int), (qb : Int)] →
          Calls Tryz.prog 223 #[.pointer (some ⟨b, 0, none⟩), .slice (some ⟨h, 0, none⟩) 2 2, .int .i64 (r : Int)] W fun e w' => e = .returned (.int .i64 ((wco p r k : Nat) : Int)) ∧ w'.rowIs w.heap.size 3 (m + 1) (prow p r k) ∧ Upd noBlock w w') := fun W h huw hi => by
        have hu := HU.out.trans huw
        have hrow := HRW.out.of_block (huw.block _ HRW.out.lt (fun h => h))
        refine (eval_ready b n _ _ 2 2 _ _ _ (HRD.out _ hu) hi (Nat.le_refl _) (by unfold maxLen; omega)).mono ?_
        rintro e w' ⟨rfl, _, hu2⟩
        exact ⟨by rw [HE.out], hrow.of_block (hu2.block _ hrow.lt (fun h => h)), hu.trans hu2⟩
      have HFIN : Hid (∀ W : World, Upd noBlock w W → W.rowIs w.heap.size 3 (m + 1) (prow p r k) → (W.setCell ⟨w.heap.size, k, none⟩ (.int .i64 ((wco p r k : Nat) : Int))).rowIs w.heap.size 3 (m + 1) (prow p r (k + 1)) ∧ Upd noBlock w (W.setCell ⟨w.heap.size, k, none⟩ (.int .i64 ((wco p r k : Nat) : Int)))) := fun W hu hrow =>
        ⟨(hrow.set k _).congr (fun j _ => (prow_succ p r k j).symm), hu.setCell (.inr (Nat.le_refl _)) _⟩
      have HC : Hid (∀ W : World, W.rowIs w.heap.size 3 (m + 1) (prow p r k) → W.cell? ⟨w.heap.size, k, none⟩ = some (prow p r k k) ∧ W.frozen? ⟨w.heap.size, k, none⟩ = false) := fun W hrow => ⟨hrow.cell (i := k) (by omega), hrow.frozen _⟩
      clear hgo hgo2 he hk1
      generalize wco p r k = z at *
      generalize prow p r k k = vz at *
      have hi1 : (k : Int) < (m : Int) + 1 := by omega
      have hi2 : (k : Int) < (m : Int) := by omega
      have hsub : (k : Int) - 1 = (i : Int) := by have := hik.out; omega
      have hi3 : (i : Int) < (m : Int) := by have := hik.out; omega
      have hi5 : i < m := by have := hik.out; omega
      have hi6 : (0 : Int) ≤ (i : Int) := by omega
      have hi7 : (0 : Int) ≤ (k : Int) := by omega
      have hw1 : IntKind.i64.wrap (i : Int) = (i : Int) := IntWalk.i64_in _ (by omega)
      go_wp2_with fail
      go_region_with (go_at_call 223; refine (HEV.out _ _ (by first | exact ((Upd.refl _ _).drew.alloc _) | exact ((Upd.refl _ _).alloc _).drew | exact ((Upd.refl _ _).alloc _) | exact ((Upd.refl _ _).drew.drew.alloc _)) (by first | exact ints2 _ _ _ | exact (ints2 _ _ _).more (by simp))).mono ?_; rintro e w5 ⟨rfl, hr5, hu5⟩; have c5 := (HC.out _ hr5).1; have f5 := (HC.out _ hr5).2)
      all_goals
        have hend := HFIN.out _ hu5 hr5
        have HE1 := Lib.hid hend.1
        have HE2 := Lib.hid hend.2
        clear hend
        go_wp2
        go_roundw
        case rel => exact ⟨k + 1, by omega, by omega, by go_num, HE1, HE2⟩
        case measure => simp [intOf]; omega
    · obtain rfl : k = m := by omega
      obtain ⟨i, Hi⟩ : ∃ i, Hid (k - 1 = i) := ⟨_, rfl⟩
      obtain ⟨g', off', hgo2, _, ca⟩ := HIN.out wr HU.out (k - 1) (by omega)
      obtain ⟨rfl, rfl⟩ : g = g' ∧ off = off' := by simpa using hgo2
      rw [Hi.out] at ca
      have hik : Hid (k = i + 1) := by have := Hi.out; show k = i + 1; omega
      have hv : p.getD i 0 = wco p r k := by
        unfold wco
        rw [if_neg (by omega), if_neg (by rw [Hm.out]; omega), Hi.out, Nat.xor_zero]
      rw [hv] at ca
      have HR2 : Hid ((wr.setCell ⟨w.heap.size, k, none⟩ (.int .i64 ((wco p r k : Nat) : Int))).rowIs w.heap.size 3 (k + 1) (prow p r (k + 1))) := (HRW.out.set k _).congr (fun j _ => (prow_succ p r k j).symm)
      have HU2 : Hid (Upd noBlock w (wr.setCell ⟨w.heap.size, k, none⟩ (.int .i64 ((wco p r k : Nat) : Int)))) := HU.out.setCell (.inr (Nat.le_refl _)) _
      have c5 := HRW.out.cell (i := k) (by omega)
      have f5 := HRW.out.frozen k
      generalize wco p r k = z at *
      generalize prow p r k k = vz at *
      have hi1 : (k : Int) < (k : Int) + 1 := by omega
      have hsub : (k : Int) - 1 = (i : Int) := by have := hik.out; omega
      have hi3 : (i : Int) < (k : Int) := by have := hik.out; omega
      have hi5 : i < k := by have := hik.out; omega
      clear hgo2 hv
      go_wp2
      go_ret
      exact ⟨rfl, HR2.out, HU2.out⟩
end Go.Proofs.YtoledgpcgjdjjaaGreatDoor.Doc
namespace Go.Proofs.YtoledgpcgjdjjaaGreatDoor.Doc
open Go.RowKit Pm Gfm

def rt (K : Nat) : Nat → Nat | 0 => pw K | j + 1 => mul (rt K j) (rt K j)
theorem rt_pw (K j : Nat) : rt K j = pw (2 ^ j * K) := by
  induction j with
  | zero => simp [rt]
  | succ j ih =>
    show mul (rt K j) (rt K j) = _
    rw [ih, mul_pw, Nat.pow_succ]
    congr 1
    rw [Nat.mul_comm (2 ^ j) 2, Nat.mul_assoc]; omega
theorem rt_13 (K : Nat) : rt K 13 = rt K 0 := by
  rw [rt_pw, rt_pw, show 2 ^ 13 * K = K + 8191 * K by omega, pw_addk]; simp
theorem rt_lt (K j : Nat) : rt K j < 8192 := by rw [rt_pw]; exact pw_lt _
theorem rt_pos (K j : Nat) : 0 < rt K j := by rw [rt_pw]; exact pw_pos _
theorem pow_two (a : Nat) (h0 : 0 < a) (h : a < 8192) : powN a 2 = mul a a := by
  have e2 : trn 2 = 2 := by decide
  unfold powN
  rw [if_neg (by omega), if_neg (by omega), e2]
  have hl := pw_lg a h0 h
  have hm := mul_pw (lg a) (lg a)
  rw [hl] at hm
  rw [hm]
  generalize lg a = x
  have et : trn ((x : Int) * ((2 : Nat) : Int)) = (x + x) % 8191 := by unfold trn; omega
  rw [et, pw_mod]
def mprod (K : Nat) : Nat → List Nat | 0 => [1] | j + 1 => wroot (mprod K j) (rt K j)
theorem mprod_length (K j : Nat) : (mprod K j).length = j + 1 := by
  induction j with
  | zero => rfl
  | succ j ih => show (wroot _ _).length = _; rw [wroot_length, ih]
theorem mprod_small (K j : Nat) : Small (mprod K j) := by
  induction j with
  | zero => intro x hx; simp [mprod] at hx; omega
  | succ j ih => exact wroot_small ih _
def mexp (l : List Nat) (k : Nat) : List Int := ((List.range k).filter fun i => l.getD i 0 == 1).map fun i : Nat => (i : Int)
theorem mexp_succ (l : List Nat) (k : Nat) : mexp l (k + 1) = if l.getD k 0 = 1 then mexp l k ++ [(k : Int)] else mexp l k := by
  unfold mexp
  rw [List.range_succ, List.filter_append, List.map_append]
  by_cases h : l.getD k 0 = 1
  · have hb : (l.getD k 0 == 1) = true := beq_iff_eq.2 h
    rw [if_pos h, List.filter_cons, if_pos hb]; rfl
  · have hb : ¬ (l.getD k 0 == 1) = true := fun e => h (beq_iff_eq.1 e)
    rw [if_neg h, List.filter_cons, if_neg hb]
    simp
theorem mexp_le (l : List Nat) (k : Nat) : (mexp l k).length ≤ k := by
  unfold mexp
  rw [List.length_map]
  exact Nat.le_trans (List.length_filter_le _ _) (by simp)
def mpol (K j : Nat) : Nat := gat (mexp (mprod K j) (j + 1))
def lrow (l : List Nat) (j : Nat) : Value := .int .i64 ((l.getD j 0 : Nat) : Int)
theorem row_list {w : World} {g m : Nat} {l : List Nat} (h : w.rowIs g 3 m (lrow l)) (hl : l.length = m) : Ints w w.heap.size (some ⟨g, 0, none⟩) m (nats l) :=
  ⟨by rw [nats_length, hl], fun _ => ⟨g, 0, rfl, h.lt, fun i hi => by
    rw [Nat.zero_add, h.cell (i := i) hi, nats_getD]; rfl⟩⟩
theorem prow_list (p : List Nat) (r j : Nat) (h : j < p.length + 1) : prow p r (p.length + 1) j = lrow (wroot p r) j := by
  unfold prow lrow
  rw [if_pos h, wroot_getD p r j h]
theorem ints1 (w : World) (x : Int) : Ints (w.alloc (.cells #[.int .i64 x] 3)) (w.heap.size + 1) (some ⟨w.heap.size, 0, none⟩) 1 [x] :=
  ⟨rfl, fun _ => ⟨w.heap.size, 0, rfl, by omega, fun i hi => by
    rw [cell_of (heap_alloc_new w _)]
    obtain rfl : i = 0 := by omega
    rfl⟩⟩
theorem withRoot_list (b : Nat) (n : Int) (g m : Nat) (l : List Nat) (r : Nat) (w : World) (h : Ready w b n) (hr : Ints w w.heap.size (some ⟨g, 0, none⟩) m (nats l)) (hl : l.length = m) (h1 : 1 ≤ m) (h2 : m ≤ 100) (hp : Small l) (hr8 : r < 8192) (c : Nat) :
    Calls Tryz.prog 196 #[.pointer (some ⟨b, 0, none⟩), .slice (some ⟨g, 0, none⟩) m c, .int .i64 (r : Int)] w fun e w' =>
      e = .returned (.slice (some ⟨w.heap.size, 0, none⟩) (m + 1) (m + 1)) ∧ w'.rowIs w.heap.size 3 (m + 1) (lrow (wroot l r)) ∧ Upd noBlock w w' := by
  subst hl
  refine (withRoot_any b n _ c w.heap.size l r w h hr (Nat.le_refl _) h1 h2 hp hr8).mono ?_
  rintro e w' ⟨rfl, h1, h2⟩
  exact ⟨rfl, h1.congr (fun i hi => prow_list l r i hi), h2⟩

def MinPost (b : Nat) (n : Int) (K : Nat) (w : World) (e : Ending) (w' : World) : Prop :=
  ∃ J v, 1 ≤ J ∧ J ≤ 13 ∧ rt K J = rt K 0 ∧ (∀ i, 1 ≤ i → i < J → rt K i ≠ rt K 0) ∧ e = .returned v ∧ PolyV w w' v (mpol K J) ∧ Ready w' b n ∧ Upd (oneBlock b) w w'
theorem _root_.Go.Proofs.YtoledgpcgjdjjaaGreatDoor.Upd.oneD {b : Nat} {w w' : World} (h : Upd noBlock w w') : Upd (oneBlock b) w w' := h.mono (fun _ _ h => h.elim)

set_option maxRecDepth 20000 in
set_option maxHeartbeats 1600000 in
theorem minimal_any (b : Nat) (n k : Int) (w : World) (h : Fld w b n) :
    Calls Tryz.prog 147 #[.pointer (some ⟨b, 0, none⟩), .int .i64 k] w (MinPost b n (trn k) w) := by
  obtain ⟨i0, hi0, hz0, hz1, hz2⟩ := intParts2
  have HF := Lib.hid h
  clear h
  have e0 : pw (trn k) = rt (trn k) 0 := rfl
  obtain ⟨K, HK⟩ : ∃ K, Hid (trn k = K) := ⟨_, rfl⟩
  rw [HK.out] at e0
  rw [HK.out]
  go_enter Tryz.func147, Tryz.ntmps147
  go_wp2_with fail
  refine (exp_any b n k _ HF.out).mono ?_
  rintro e w1 ⟨rfl, hr1, hu1⟩
  rw [HK.out, e0]
  have HR1 := Lib.hid hr1
  have HU1 := Lib.hid hu1
  clear hr1 hu1 HF e0
  go_wp2_with fail
  have hi1 := ints1 w1 1
  have hun : Upd noBlock w1 (w1.alloc (.cells #[.int .i64 1] 3)) := (Upd.refl _ _).alloc _
  refine (withRoot_list b n w1.heap.size 1 [1] (rt K 0) _ (HR1.out.upd hun) (hi1.more (by simp)) rfl (by omega) (by omega) (mprod_small K 0) (rt_lt K 0) 1).mono ?_
  rintro e w2 ⟨rfl, hrow2, hu2⟩
  have HRW2 := Lib.hid hrow2
  have HU2 := Lib.hid (hun.trans hu2)
  have hg2 : w1.heap.size ≤ (w1.alloc (.cells #[.int .i64 1] 3)).heap.size := by simp
  clear hi1 hun hu2 hrow2
  generalize (w1.alloc (.cells #[.int .i64 1] 3)).heap.size = g2 at *
  go_wp2_with fail
  refine (pow_ready b n _ _ _ (HR1.out.upd HU2.out)).mono ?_
  rintro e w3 ⟨rfl, _, hu3⟩
  have e1 : powN (low ((rt K 0 : Nat) : Int)) 2 = rt K 1 := by rw [low_nat _ (rt_lt K 0), pow_two _ (rt_pos K 0) (rt_lt K 0)]; rfl
  rw [e1]
  have HRW3 := Lib.hid (HRW2.out.of_block (hu3.block _ HRW2.out.lt (fun h => h)))
  have HU3 := Lib.hid (HU2.out.trans hu3)
  clear hu3 HRW2 HU2 e1
  go_wp2_with fail
  have HB1 : Hid (w1.heap.size ≤ g2) := hg2
  clear hg2
  go_loopw [6, 7] (fun pv r wr => ∃ j g : Nat, 1 ≤ j ∧ j ≤ 13 ∧ pv = .slice (some ⟨g, 0, none⟩) (j + 1) (j + 1) ∧ r = .int .i64 ((rt K j : Nat) : Int) ∧ Hid (w1.heap.size ≤ g) ∧ Hid (∀ i, 1 ≤ i → i < j → rt K i ≠ rt K 0) ∧ Hid (wr.rowIs g 3 (j + 1) (lrow (mprod K j))) ∧ Hid (Upd noBlock w1 wr)) (fun pv _ _ => match pv with | .slice _ m _ => 15 - m | _ => 0)
  case atStart => exact ⟨1, g2, by omega, by omega, rfl, rfl, HB1, (fun i h1 h2 => absurd h2 (by omega)), HRW3, HU3⟩
  case round =>
    clear HB1 HRW3 HU3
    obtain ⟨j, g, hj1, hj, rfl, rfl, HB, HD, HRW, HU⟩ := hrel
    by_cases hr : rt K j = rt K 0
    · have HRT := Lib.hid hr
      rw [hr]
      obtain ⟨m, Hm⟩ : ∃ m, Hid (j + 1 = m) := ⟨_, rfl⟩
      rw [Hm.out] at HRW
      rw [Hm.out]
      have hm : m ≤ 14 := by rw [← Hm.out]; omega
      clear hr
      go_wp2_with fail
      obtain ⟨wo, rfl⟩ : ∃ wo : World, wo = wr := ⟨_, rfl⟩
      go_loopw [8, 35] (fun v i wr => ∃ q : Nat, q ≤ m ∧ i = .int .i64 (q : Int) ∧ Hid (wr.ownsRow wo.heap.size 3 1 v (mexp (mprod K j) q).length (vals (mexp (mprod K j) q))) ∧ Hid (Upd noBlock wo wr)) (fun _ i _ => m - (intOf i).toNat)
      case atStart => exact ⟨0, Nat.zero_le _, rfl, World.ownsRow_nil _ _ _ _, Upd.refl _ _⟩
      case round =>
        obtain ⟨q, hq, rfl, HO, HU2⟩ := hrel
        by_cases hqm : q < m
        · have c1 := (HRW.out.of_block (HU2.out.block g HRW.out.lt (fun h => h))).cell (i := q) hqm
          have hle := mexp_le (mprod K j) q
          have HX := Lib.hid (mexp_succ (mprod K j) q)
          by_cases h1 : (mprod K j).getD q 0 = 1
          · have c2 : wr.cell? ⟨g, q, none⟩ = some (.int .i64 1) := by rw [c1]; unfold lrow; rw [h1]; rfl
            have HX2 : Hid (mexp (mprod K j) (q + 1) = mexp (mprod K j) q ++ [(q : Int)]) := by have h := HX.out; rw [if_pos h1] at h; exact h
            have HIn := Lib.hid (ints1 wr (q : Int))
            have HO2 := Lib.hid (HO.out.alloc (.cells #[.int .i64 (q : Int)] 3))
            have HU3 := Lib.hid (HU2.out.alloc (.cells #[.int .i64 (q : Int)] 3))
            have hsz := HU2.out.size
            have HLE := Lib.hid hle
            clear c1 h1 HX HO HU2 hle
            go_wp2_with (at_builtin; refine wpList_append_ints _ rfl (.tmp 42) (.tmp 44) _ rfl wo.heap.size 3 i0 _ Tryz.underlying57 hi0 hz0 hz1 hz2 rfl _ _ (vals (mexp (mprod K j) q)) rfl HO2.out (wr.heap.size + 1) (some ⟨wr.heap.size, 0, none⟩) 1 1 [(q : Int)] rfl HIn.out (by have := HLE.out; unfold maxLen; omega) (by have := HLE.out; omega) (by simp; omega) ?_; intro v3 w3 hown3 hg3 _)
            go_roundw
            case rel =>
              refine ⟨q + 1, by omega, by go_num, ?_, ?_⟩
              · have e : (mexp (mprod K j) (q + 1)).length = (mexp (mprod K j) q).length + 1 := by rw [HX2.out]; simp
                have e2 : vals (mexp (mprod K j) (q + 1)) = vals (mexp (mprod K j) q) ++ vals [(q : Int)] := by rw [HX2.out]; simp [vals]
                rw [e, e2]
                exact hown3
              · exact HU3.out.grownOwn hg3 (fun k hk => (HO2.out.lt k hk).1)
            case measure => simp [intOf]; omega
          · have c2 : wr.cell? ⟨g, q, none⟩ = some (.int .i64 (((mprod K j).getD q 0 : Nat) : Int)) := c1
            have t1 : ((((mprod K j).getD q 0 : Nat) : Int) == 1) = false := beq_eq_false_iff_ne.2 (by omega)
            have HX2 : Hid (mexp (mprod K j) (q + 1) = mexp (mprod K j) q) := by have h := HX.out; rw [if_neg h1] at h; exact h
            clear c1 h1 HX hle
            generalize (mprod K j).getD q 0 = z at *
            go_wp2
            go_roundw
            case rel => exact ⟨q + 1, by omega, by go_num, by rw [HX2.out]; exact HO, HU2⟩
            case measure => simp [intOf]; omega
        · obtain rfl : q = m := by omega
          obtain ⟨po, co, rfl, hio, mo, _⟩ := own_ints HO.out
          have HIO := Lib.hid hio
          clear hio HO
          go_wp2_with fail
          refine (of_any po _ co _ (mexp (mprod K j) q) _ HIO.out (Nat.le_refl _) mo).mono ?_
          rintro e w5 ⟨v5, rfl, hv5, hu5⟩
          have hu6 := (HU.out.trans HU2.out).trans hu5
          have HV5 : Hid (PolyV w w5 v5 (mpol K j)) := by
            unfold mpol
            rw [Hm.out]
            exact ⟨own_more hv5.1 (Nat.le_trans HU1.out.size (HU.out.trans HU2.out).size), hv5.2⟩
          have HR5 := Lib.hid (HR1.out.upd hu6)
          have HU5 := Lib.hid (HU1.out.trans hu6.oneD)
          clear hv5 hu5 hu6
          go_wp2_with fail
          go_ret
          exact ⟨j, v5, hj1, hj, HRT.out, HD.out, rfl, HV5.out, HR5.out, HU5.out⟩
    · have hj12 : j ≤ 12 := by
        rcases Nat.lt_or_ge j 13 with h | h
        · omega
        · exact absurd (by rw [show j = 13 by omega]; exact rt_13 K) hr
      have t1 : (((rt K j : Nat) : Int) == ((rt K 0 : Nat) : Int)) = false := beq_eq_false_iff_ne.2 (by omega)
      have HI := Lib.hid (row_list HRW.out (mprod_length K j))
      have HWR : ∀ W, Hid (Upd noBlock w1 W → Ready W b n) := fun W hu => HR1.out.upd hu
      have HL : Hid ((mprod K j).length = j + 1) := mprod_length K j
      have HSM := Lib.hid (mprod_small K j)
      have hlt := Lib.hid (rt_lt K j)
      have HNR := Lib.hid hr
      have e1 : powN (low ((rt K j : Nat) : Int)) 2 = rt K (j + 1) := by rw [low_nat _ (rt_lt K j), pow_two _ (rt_pos K j) (rt_lt K j)]; rfl
      have HE1 := Lib.hid e1
      have emp : Hid (wroot (mprod K j) (rt K j) = mprod K (j + 1)) := rfl
      clear hr e1
      go_wp2_with fail
      refine (withRoot_list b n g (j + 1) (mprod K j) (rt K j) _ ((HWR _).out HU.out) HI.out HL.out (by omega) (by omega) HSM.out hlt.out (j + 1)).mono ?_
      rintro e w2 ⟨rfl, hrow2, hu2⟩
      rw [emp.out] at hrow2
      have HU2 := Lib.hid (HU.out.trans hu2)
      have hgs := HU.out.size
      have HRW2 := Lib.hid hrow2
      clear hrow2 hu2
      go_wp2_with fail
      refine (pow_ready b n _ _ _ ((HWR _).out HU2.out)).mono ?_
      rintro e w3 ⟨rfl, _, hu3⟩
      rw [HE1.out]
      have HRW3 := Lib.hid (HRW2.out.of_block (hu3.block _ HRW2.out.lt (fun h => h)))
      have HU3 := Lib.hid (HU2.out.trans hu3)
      clear hu3
      go_wp2_with fail
      go_roundw
      case rel => exact ⟨j + 1, _, by omega, by omega, rfl, rfl, hgs, (fun i h1 h2 => by
        rcases Nat.lt_or_ge i j with h | h
        · exact HD.out i h1 h
        · rw [show i = j by omega]; exact HNR.out), HRW3, HU3⟩
      case measure => simp; omega
end Go.Proofs.YtoledgpcgjdjjaaGreatDoor.Doc
namespace Go.Proofs.YtoledgpcgjdjjaaGreatDoor.Doc
open Go.RowKit Pm Gfm

def slowB (K : Nat) : Nat → Bool | 0 => true | j + 1 => slowB K j && (j == 0 || !(rt K j == rt K 0))
theorem slowB_spec (K n : Nat) (h : slowB K n = true) : ∀ j, 1 ≤ j → j < n → rt K j ≠ rt K 0 := by
  induction n with
  | zero => intro j _ h; omega
  | succ n ih =>
    rw [slowB, Bool.and_eq_true] at h
    intro j h1 h2
    rcases Nat.lt_or_ge j n with h3 | h3
    · exact ih h.1 j h1 h3
    · obtain rfl : j = n := by omega
      intro e
      have := h.2
      rw [e] at this
      simp at this
      omega
theorem odd_slow : ∀ i : Fin 8, slowB (2 * i.val + 1) 13 = true := by decide +kernel
theorem odd_13 (i : Nat) (h : i < 8) (J : Nat) (h1 : 1 ≤ J) (h2 : J ≤ 13) (h3 : rt (2 * i + 1) J = rt (2 * i + 1) 0) : J = 13 := by
  rcases Nat.lt_or_ge J 13 with h4 | h4
  · exact absurd h3 (slowB_spec _ 13 (odd_slow ⟨i, h⟩) J h1 h4)
  · omega
def mp (i : Nat) : Nat := mpol (2 * i + 1) 13
theorem mp_deg : ∀ i : Fin 8, 2 ^ 13 ≤ mp i.val ∧ mp i.val < 2 ^ 14 := by decide +kernel
def GG : Nat → Nat | 0 => gat [0] | i + 1 => pmul (GG i) (mp i)
theorem GG_deg (i : Nat) (h : i ≤ 8) : 2 ^ (13 * i) ≤ GG i ∧ GG i < 2 ^ (13 * i + 1) := by
  induction i with
  | zero => decide
  | succ i ih =>
    obtain ⟨h1, h2⟩ := ih (by omega)
    obtain ⟨h3, h4⟩ := mp_deg ⟨i, by omega⟩
    have := pmul_deg (GG i) (mp i) (13 * i) 13 h1 h2 h3 h4 (by omega)
    rw [show 13 * (i + 1) = 13 * i + 13 by omega]
    exact this
theorem GG_top (i : Nat) (h : i ≤ 8) : GG i < 2 ^ top := Nat.lt_of_lt_of_le (GG_deg i h).2 (Nat.pow_le_pow_right (by omega) (by unfold top; omega))
def GP (w w' : World) (v : Value) (P : Nat) : Prop := ∃ p n c, v = .slice p n c ∧ Ints w' w'.heap.size p n (exps P) ∧ n ≤ maxLen ∧ ∀ g, p.map Addr.block = some g → w.heap.size ≤ g
theorem _root_.Go.Proofs.YtoledgpcgjdjjaaGreatDoor.PolyV.gpD {w0 w w' : World} {v : Value} {P : Nat} (h : PolyV w w' v P) (hs : w0.heap.size ≤ w.heap.size) : GP w0 w' v P := by
  obtain ⟨a, c, rfl, h1, h2, h3⟩ := own_ints h.1
  exact ⟨a, _, c, rfl, h1, h2, fun g hg => Nat.le_trans hs (h3 g hg).1⟩
attribute [local irreducible] Pm.exps pmul mp GG mpol

set_option maxRecDepth 20000 in
set_option maxHeartbeats 1600000 in
theorem generator_any (b : Nat) (n : Int) (t : Nat) (w : World) (h : Fld w b n) (ht1 : 1 ≤ t) (ht8 : t ≤ 8) :
    Calls Tryz.prog 111 #[.pointer (some ⟨b, 0, none⟩), .int .i64 (t : Int)] w fun e w' => ∃ v, e = .returned (.tuple #[v, .bool true]) ∧ GP w w' v (GG t) ∧ Fld w' b n ∧ Upd (oneBlock b) w w' := by
  have hbl := h.lt
  have HF := Lib.hid h
  have hun : Upd noBlock w (w.alloc (.cells #[.int .i64 0] 3)) := (Upd.refl _ _).alloc _
  have HUN := Lib.hid hun
  have HI := Lib.hid ((ints1 w 0).more (show w.heap.size + 1 ≤ (w.alloc (.cells #[.int .i64 0] 3)).heap.size by simp))
  have HG0 : Hid (gat [0] = GG 0) := by show _ = _; unfold GG; rfl
  have t1 : decide ((t : Int) < 1) = false := decide_eq_false (by omega)
  have t2 : decide ((8 : Int) < (t : Int)) = false := decide_eq_false (by omega)
  clear h hun
  go_enter Tryz.func111, Tryz.ntmps111
  go_wp2_with fail
  refine (of_any _ 1 1 _ [0] _ HI.out (Nat.le_refl _) (by unfold maxLen; omega)).mono ?_
  rintro e w1 ⟨v1, rfl, hv1, hu1⟩
  rw [HG0.out] at hv1
  have HV1 : Hid (GP w w1 v1 (GG 0)) := hv1.gpD (by simp)
  have HU1 := Lib.hid ((HUN.out.trans hu1).oneD (b := b))
  have HF1 := Lib.hid (HF.out.grow (HUN.out.trans hu1))
  clear hv1 hu1 HF HI HUN t1 t2
  go_wp2_with fail
  go_loopw [6, 7] (fun v k wr => ∃ i : Nat, i ≤ t ∧ k = .int .i64 (2 * (i : Int) + 1) ∧ Hid (GP w wr v (GG i)) ∧ Hid (Fld wr b n) ∧ Hid (Upd (oneBlock b) w wr)) (fun _ k _ => (17 - intOf k).toNat)
  case atStart => exact ⟨0, Nat.zero_le _, rfl, HV1, HF1, HU1⟩
  case round =>
    clear HV1 HF1 HU1
    obtain ⟨i, hi, rfl, HV, HF, HU⟩ := hrel
    by_cases h0 : i < t
    · obtain ⟨p, m, c, rfl, hi1, hm, hg⟩ := HV.out
      have HIP := Lib.hid hi1
      have HPG := Lib.hid hg
      have hlt : 2 * (i : Int) + 1 < 2 * (t : Int) := by omega
      have etr : trn (2 * (i : Int) + 1) = 2 * i + 1 := by unfold trn; omega
      have HM := Lib.hid (minimal_any b n (2 * (i : Int) + 1) wr HF.out)
      rw [etr] at HM
      have h8 : i < 8 := by omega
      have HH8 := Lib.hid h8
      clear hi1 hg etr h8 HF HV
      go_wp2_with fail
      refine HM.out.mono ?_
      rintro e w2 ⟨J, v2, hJ1, hJ2, hJ3, _, rfl, hv2, hr2, hu2⟩
      obtain rfl := odd_13 i HH8.out J hJ1 hJ2 hJ3
      have hv3 : PolyV wr w2 v2 (mp i) := by unfold mp; exact hv2
      obtain ⟨p2, c2, rfl, hi2, m2, _⟩ := own_ints hv3.1
      have HI2 := Lib.hid hi2
      have HIP2 := Lib.hid ((HIP.out.upd hu2 (Nat.le_refl _) (fun g hg _ e => by
        have e' : g = b := e
        have := HPG.out g hg
        omega)).more hu2.size)
      have HF2 := Lib.hid hr2.fld
      have HU2 := Lib.hid (HU.out.trans hu2)
      have d1 := GG_deg i (by have := HH8.out; omega)
      have d2 := mp_deg ⟨i, HH8.out⟩
      have g1 : gat (exps (GG i)) = GG i := gat_exps _ (GG_top i (by have := HH8.out; omega))
      have g2 : gat (exps (mp i)) = mp i := gat_exps _ hv3.2
      have HMUL := Lib.hid (pmul_ok p m c w2.heap.size (exps (GG i)) p2 _ c2 w2.heap.size (exps (mp i)) w2 HIP2.out (Nat.le_refl _) hm HI2.out (Nat.le_refl _) m2 (13 * i) 13 (by rw [g1]; exact d1.1) (by rw [g1]; exact d1.2) (by rw [g2]; exact d2.1) (by rw [g2]; exact d2.2) (by have := HH8.out; omega))
      rw [g1, g2] at HMUL
      have HGS : Hid (pmul (GG i) (mp i) = GG (i + 1)) := by show _ = _; conv => rhs; unfold GG
      clear hv2 hv3 hi2 hr2 hu2 hJ1 hJ2 hJ3 d1 d2 g1 g2
      go_wp2_with fail
      refine HMUL.out.mono ?_
      rintro e w3 ⟨v3, rfl, hv3, hu3⟩
      rw [HGS.out] at hv3
      have HV3 : Hid (GP w w3 v3 (GG (i + 1))) := hv3.gpD HU2.out.size
      have HF3 := Lib.hid (HF2.out.grow hu3)
      have HU3 := Lib.hid (HU2.out.trans hu3.oneD)
      clear hv3 hu3
      go_wp2_with fail
      go_roundw
      case rel => exact ⟨i + 1, by omega, by go_num, HV3, HF3, HU3⟩
      case measure => simp [intOf]; omega
    · obtain rfl : i = t := by omega
      have hlt : ¬ (2 * (i : Int) + 1 < 2 * (i : Int)) := by omega
      go_wp2_with fail
      go_ret2
      exact ⟨_, rfl, HV.out, HF.out, HU.out⟩
end Go.Proofs.YtoledgpcgjdjjaaGreatDoor.Doc
namespace Go.Proofs.YtoledgpcgjdjjaaGreatDoor.Doc
open Pm Gfm

def gv : List Nat := [1, 8219, 81073483, 802986049005, 5719866781435563, 70802422373250291595, 600861845307791167304061, 2475918012808473855665188261, 22023288022493040599844014848803]
def mv : List Nat := [8219, 9905, 10643, 10063, 12769, 9123, 12409, 8895]
theorem mp_val : ∀ i : Fin 8, mp i.val = mv.getD i.val 0 := by decide +kernel
theorem gv_step : ∀ i : Fin 8, cm (lst 128 (gv.getD i.val 0)) (mv.getD i.val 0) = gv.getD (i.val + 1) 0 := by decide +kernel
theorem gv_lt : ∀ i : Fin 9, gv.getD i.val 0 < 2 ^ 128 := by decide +kernel
theorem exps_128 (P : Nat) (h : P < 2 ^ 128) : exps P = lst 128 P := lst_up 128 top P h (by unfold top; omega)
theorem GG_val (i : Nat) (h : i ≤ 8) : GG i = gv.getD i 0 := by
  induction i with
  | zero => decide
  | succ i ih =>
    have e : GG (i + 1) = cm (exps (GG i)) (mp i) := rfl
    rw [e, ih (by omega), exps_128 _ (gv_lt ⟨i, by omega⟩), mp_val ⟨i, by omega⟩, gv_step ⟨i, by omega⟩]
def evs (K : Nat) : List Int → Nat | [] => 0 | e :: l => pw (trn ((K : Int) * e)) ^^^ evs K l
theorem pw_trn (K n : Nat) : pw (trn ((K : Int) * (n : Int))) = pw (K * n) := by
  have e : trn ((K : Int) * (n : Int)) = (K * n) % 8191 := by
    rw [← Int.natCast_mul]
    generalize K * n = m
    unfold trn; omega
  rw [e, pw_mod]
def runA (P x : Nat) : Nat → Nat → Nat → Nat → Nat
  | 0, _, s, _ => s
  | f + 1, e, s, X => match (if P.testBit e then ((s - 1) ^^^ X) + 1 else s), mul X x with
    | s' + 1, q + 1 => runA P x f (e + 1) (s' + 1) (q + 1)
    | _, _ => 0
theorem runA_spec (P K : Nat) : ∀ f e S, S = evs K (lst e P) → runA P (pw K) f e (S + 1) (pw (K * e)) = evs K (lst (e + f) P) + 1 := by
  intro f
  induction f with
  | zero => intro e S h; show S + 1 = evs K (lst e P) + 1; rw [h]
  | succ f ih =>
    intro e S h
    have hm : mul (pw (K * e)) (pw K) = pw (K * (e + 1)) := by rw [mul_pw, Nat.mul_succ]
    have hl : lst (e + 1) P = if P.testBit e then (e : Int) :: lst e P else lst e P := rfl
    have hs : (if P.testBit e then ((S + 1 - 1) ^^^ pw (K * e)) + 1 else S + 1) = evs K (lst (e + 1) P) + 1 := by
      rw [hl]
      by_cases hb : P.testBit e = true
      · rw [if_pos hb, if_pos hb, Nat.add_sub_cancel]
        show _ = (pw (trn ((K : Int) * (e : Int))) ^^^ evs K (lst e P)) + 1
        rw [pw_trn, h, Nat.xor_comm]
      · rw [if_neg hb, if_neg hb, h]
    have hp := pw_pos (K * (e + 1))
    obtain ⟨q, hq⟩ : ∃ q, pw (K * (e + 1)) = q + 1 := ⟨pw (K * (e + 1)) - 1, by omega⟩
    unfold runA
    rw [hs, hm, hq]
    show runA P (pw K) f (e + 1) (evs K (lst (e + 1) P) + 1) (q + 1) = _
    rw [← hq, ih (e + 1) _ rfl]
    congr 3
    omega
theorem roots_run : ∀ T : Fin 8, ∀ K : Fin 16, K.val < 2 * (T.val + 1) → runA (gv.getD (T.val + 1) 0) (pw (K.val + 1)) 105 0 1 1 = 1 := by decide +kernel
theorem lst_105 : ∀ T : Fin 9, lst 128 (gv.getD T.val 0) = lst 105 (gv.getD T.val 0) := by decide +kernel
theorem roots_zero (T K : Nat) (hT1 : 1 ≤ T) (hT8 : T ≤ 8) (hK1 : 1 ≤ K) (hK2 : K ≤ 2 * T) : evs K (exps (GG T)) = 0 := by
  rw [GG_val T hT8, exps_128 _ (gv_lt ⟨T, by omega⟩), lst_105 ⟨T, by omega⟩]
  have h := roots_run ⟨T - 1, by omega⟩ ⟨K - 1, by omega⟩ (by show K - 1 < 2 * (T - 1 + 1); omega)
  have e1 : T - 1 + 1 = T := by omega
  have e2 : K - 1 + 1 = K := by omega
  simp only [e1, e2] at h
  have hs := runA_spec (gv.getD T 0) K 105 0 0 rfl
  rw [Nat.mul_zero] at hs
  have e3 : pw 0 = 1 := rfl
  rw [e3, Nat.zero_add, Nat.zero_add, h] at hs
  show evs K (lst 105 (gv.getD T 0)) = 0
  omega
end Go.Proofs.YtoledgpcgjdjjaaGreatDoor.Doc
namespace Go.Proofs.YtoledgpcgjdjjaaGreatDoor.Doc
open Pm Gfm

theorem mul_eq_zero (a b : Nat) (ha : a < 8192) (hb : b < 8192) (h : mul a b = 0) : a = 0 ∨ b = 0 := by
  rcases elem a ha with h1 | ⟨m, _, rfl⟩
  · exact .inl h1
  · rcases elem b hb with h2 | ⟨n, _, rfl⟩
    · exact .inr h2
    · rw [mul_pw] at h
      have := pw_pos (m + n)
      omega
def E (p : List Nat) (x : Nat) : Nat := p.foldr (fun c acc => mul acc x ^^^ c) 0
def wa (r : Nat) : Nat → List Nat → List Nat
  | prev, [] => [prev]
  | prev, c :: p => (prev ^^^ mul c r) :: wa r c p
theorem xor_zero_iff (a b : Nat) : a ^^^ b = 0 ↔ a = b := by
  constructor
  · intro h
    have := congrArg (· ^^^ b) h
    simpa [Nat.xor_assoc] using this
  · rintro rfl; exact Nat.xor_self a
/-! squares -/
def sq (p : List Nat) : List Nat := p.map fun c => mul c c
/-! the polynomial over two numbers that has these coefficients -/
end Go.Proofs.YtoledgpcgjdjjaaGreatDoor.Doc
namespace Go.Proofs.YtoledgpcgjdjjaaGreatDoor.Doc
open Pm Gfm

def rd (R M : List Nat) (v m : Nat) : Nat → Nat × Nat
  | 0 => (v, m)
  | k + 1 => if (rd R M v m k).1 ^^^ R.getD k 0 < (rd R M v m k).1 then ((rd R M v m k).1 ^^^ R.getD k 0, (rd R M v m k).2 ^^^ M.getD k 0) else rd R M v m k
def posn : List Nat → Nat → Nat | [], _ => 0 | x :: l, v => if v < x then posn l v + 1 else 0
theorem posn_le (v : Nat) (l : List Nat) : posn l v ≤ l.length := by
  induction l with
  | nil => exact Nat.le_refl _
  | cons x l ih =>
    show (if v < x then posn l v + 1 else 0) ≤ l.length + 1
    split <;> omega
def ins (l : List Nat) (i v : Nat) : List Nat := l.take i ++ [v] ++ l.drop i
theorem ins_length (l : List Nat) (i v : Nat) (h : i ≤ l.length) : (ins l i v).length = l.length + 1 := by
  simp [ins]; omega
def el (r : Nat) : Nat → List Nat × List Nat × Nat
  | 0 => ([], [], 1)
  | d + 1 => (ins (el r d).1 (posn (el r d).1 (rd (el r d).1 (el r d).2.1 (el r d).2.2 (2 ^ d) d).1) (rd (el r d).1 (el r d).2.1 (el r d).2.2 (2 ^ d) d).1,
      ins (el r d).2.1 (posn (el r d).1 (rd (el r d).1 (el r d).2.1 (el r d).2.2 (2 ^ d) d).1) (rd (el r d).1 (el r d).2.1 (el r d).2.2 (2 ^ d) d).2, mul (el r d).2.2 r)
def ez (r d : Nat) : Nat × Nat := rd (el r d).1 (el r d).2.1 (el r d).2.2 (2 ^ d) d
theorem el_succ (r d : Nat) : el r (d + 1) = (ins (el r d).1 (posn (el r d).1 (ez r d).1) (ez r d).1, ins (el r d).2.1 (posn (el r d).1 (ez r d).1) (ez r d).2, mul (el r d).2.2 r) := rfl
theorem el_length (r d : Nat) : (el r d).1.length = d ∧ (el r d).2.1.length = d := by
  induction d with
  | zero => exact ⟨rfl, rfl⟩
  | succ d ih =>
    rw [el_succ]
    have hp := posn_le (ez r d).1 (el r d).1
    refine ⟨?_, ?_⟩
    · show (ins _ _ _).length = _
      rw [ins_length _ _ _ hp, ih.1]
    · show (ins _ _ _).length = _
      rw [ins_length _ _ _ (by rw [ih.2]; rw [ih.1] at hp; exact hp), ih.2]
def Tiny (l : List Nat) (b : Nat) : Prop := ∀ x ∈ l, x < b
theorem Tiny.getD {l : List Nat} {b : Nat} (h : Tiny l b) (hb : 0 < b) (j : Nat) : l.getD j 0 < b := by
  rw [List.getD_eq_getElem?_getD]
  cases hx : l[j]? with
  | none => simpa using hb
  | some x => exact h x (List.mem_of_getElem? hx)
theorem rd_lt (R M : List Nat) (v m k : Nat) (hR : Tiny R 8192) (hM : Tiny M 16384) (hv : v < 8192) (hm : m < 16384) : (rd R M v m k).1 < 8192 ∧ (rd R M v m k).2 < 16384 := by
  induction k with
  | zero => exact ⟨hv, hm⟩
  | succ k ih =>
    unfold rd
    split
    · exact ⟨xor_lt _ _ ih.1 (hR.getD (by omega) k), Nat.xor_lt_two_pow (n := 14) ih.2 (hM.getD (by omega) k)⟩
    · exact ih
theorem ins_tiny {l : List Nat} {b : Nat} (h : Tiny l b) (i v : Nat) (hv : v < b) : Tiny (ins l i v) b := fun x hx => by
  simp only [ins, List.mem_append, List.mem_singleton] at hx
  rcases hx with (hx | rfl) | hx
  · exact h x (List.mem_of_mem_take hx)
  · exact hv
  · exact h x (List.mem_of_mem_drop hx)
theorem el_tiny (r d : Nat) (hd : d ≤ 14) : Tiny (el r d).1 8192 ∧ Tiny (el r d).2.1 16384 ∧ (el r d).2.2 < 8192 := by
  induction d with
  | zero => exact ⟨fun x hx => (by cases hx), fun x hx => (by cases hx), (by show 1 < 8192; omega)⟩
  | succ d ih =>
    obtain ⟨h1, h2, h3⟩ := ih (by omega)
    have hp : (2 : Nat) ^ d < 16384 := Nat.lt_of_lt_of_le (Nat.pow_lt_pow_right (by omega) (show d < 14 by omega)) (by decide)
    have hr := rd_lt _ _ _ (2 ^ d) d h1 h2 h3 hp
    exact ⟨ins_tiny h1 _ _ hr.1, ins_tiny h2 _ _ hr.2, mul_lt _ _ h3⟩
theorem ez_lt (r d : Nat) (hd : d ≤ 13) : (ez r d).1 < 8192 ∧ (ez r d).2 < 16384 := by
  obtain ⟨h1, h2, h3⟩ := el_tiny r d (by omega)
  exact rd_lt _ _ _ (2 ^ d) d h1 h2 h3 (Nat.lt_of_lt_of_le (Nat.pow_lt_pow_right (by omega) (show d < 14 by omega)) (by decide))
end Go.Proofs.YtoledgpcgjdjjaaGreatDoor.Doc
namespace Go.Proofs.YtoledgpcgjdjjaaGreatDoor.Doc
open Pm Gfm

theorem lead_bit (x : Nat) (h : x ≠ 0) : x.testBit x.log2 = true :=
  Nat.testBit_of_two_pow_le_and_two_pow_add_one_gt (Nat.log2_self_le h) Nat.lt_log2_self
theorem over_bit (x t : Nat) (h : x.log2 < t) : x.testBit t = false :=
  Nat.testBit_lt_two_pow (Nat.lt_of_lt_of_le Nat.lt_log2_self (Nat.pow_le_pow_right (by omega) h))
theorem less_bit (a b t : Nat) (ha : a.testBit t = false) (hb : b.testBit t = true) (h : ∀ j, t < j → a.testBit j = b.testBit j) : a < b := by
  have e : a / 2 ^ (t + 1) = b / 2 ^ (t + 1) := by
    refine Nat.eq_of_testBit_eq fun j => ?_
    rw [Nat.testBit_div_two_pow, Nat.testBit_div_two_pow]
    exact h _ (by omega)
  rw [Nat.testBit_eq_decide_div_mod_eq] at ha hb
  have h1 : ¬ a / 2 ^ t % 2 = 1 := of_decide_eq_false ha
  have h2 : b / 2 ^ t % 2 = 1 := of_decide_eq_true hb
  rw [Nat.pow_succ, ← Nat.div_div_eq_div_mul, ← Nat.div_div_eq_div_mul] at e
  have h3 : a / 2 ^ t < b / 2 ^ t := by omega
  rcases Nat.lt_or_ge a b with h4 | h4
  · exact h4
  · have := Nat.div_le_div_right (c := 2 ^ t) h4
    omega
theorem xor_less (v x : Nat) (h : x ≠ 0) : v ^^^ x < v ↔ v.testBit x.log2 = true := by
  have hx := lead_bit x h
  have ho : ∀ j, x.log2 < j → (v ^^^ x).testBit j = v.testBit j := fun j hj => by
    rw [Nat.testBit_xor, over_bit x j hj]; simp
  have hb : (v ^^^ x).testBit x.log2 = !v.testBit x.log2 := by rw [Nat.testBit_xor, hx]; simp
  constructor
  · intro hlt
    cases hv : v.testBit x.log2 with
    | true => rfl
    | false =>
      have := less_bit _ _ x.log2 hv (by rw [hb, hv]; rfl) (fun j hj => (ho j hj).symm)
      omega
  · intro hv
    exact less_bit _ _ x.log2 (by rw [hb, hv]; rfl) hv ho
def Ech (R : List Nat) : Prop := (∀ x ∈ R, x ≠ 0) ∧ R.Pairwise (fun x y => y.log2 < x.log2)
def Spn : List Nat → Nat → Prop
  | [], v => v = 0
  | x :: l, v => Spn l v ∨ Spn l (v ^^^ x)
theorem spn_zero (R : List Nat) : Spn R 0 := by
  induction R with
  | nil => rfl
  | cons x l ih => exact .inl ih
theorem spn_xor (R : List Nat) : ∀ a b, Spn R a → Spn R b → Spn R (a ^^^ b) := by
  induction R with
  | nil =>
    intro a b ha hb
    have h1 : a = 0 := ha
    have h2 : b = 0 := hb
    subst h1 h2; rfl
  | cons x l ih =>
    intro a b ha hb
    rcases ha with ha | ha <;> rcases hb with hb | hb
    · exact .inl (ih _ _ ha hb)
    · exact .inr (by have := ih _ _ ha hb; rwa [← Nat.xor_assoc] at this)
    · exact .inr (by have := ih _ _ ha hb; rwa [Nat.xor_assoc, Nat.xor_comm x, ← Nat.xor_assoc] at this)
    · refine .inl ?_
      have := ih _ _ ha hb
      rw [Nat.xor_assoc, Nat.xor_comm b x, ← Nat.xor_assoc x x, Nat.xor_self, Nat.zero_xor] at this
      exact this
theorem spn_mem (R : List Nat) : ∀ x ∈ R, Spn R x := by
  induction R with
  | nil => intro x h; cases h
  | cons y l ih =>
    intro x h
    rcases List.mem_cons.1 h with rfl | h
    · exact .inr (by rw [Nat.xor_self]; exact spn_zero l)
    · exact .inl (ih x h)
theorem spn_sub (R R' : List Nat) (h : ∀ x ∈ R, Spn R' x) : ∀ v, Spn R v → Spn R' v := by
  induction R with
  | nil => intro v hv; have : v = 0 := hv; subst this; exact spn_zero R'
  | cons x l ih =>
    intro v hv
    have ih' := ih (fun y hy => h y (List.mem_cons_of_mem _ hy))
    rcases hv with hv | hv
    · exact ih' v hv
    · have := spn_xor R' _ _ (ih' _ hv) (h x List.mem_cons_self)
      rwa [Nat.xor_assoc, Nat.xor_self, Nat.xor_zero] at this
theorem ech_small {x : Nat} {l : List Nat} (h : Ech (x :: l)) : ∀ v, Spn l v → v < 2 ^ x.log2 := by
  have hl : ∀ y ∈ l, y < 2 ^ x.log2 := fun y hy => by
    have := (List.pairwise_cons.1 h.2).1 y hy
    exact Nat.lt_of_lt_of_le Nat.lt_log2_self (Nat.pow_le_pow_right (by omega) this)
  clear h
  induction l with
  | nil => intro v hv; have : v = 0 := hv; subst this; exact Nat.two_pow_pos _
  | cons y l ih =>
    intro v hv
    have ih' := ih (fun z hz => hl z (List.mem_cons_of_mem _ hz))
    rcases hv with hv | hv
    · exact ih' v hv
    · have h1 := Nat.xor_lt_two_pow (ih' _ hv) (hl y List.mem_cons_self)
      rwa [Nat.xor_assoc, Nat.xor_self, Nat.xor_zero] at h1
theorem ech_tail {x : Nat} {l : List Nat} (h : Ech (x :: l)) : Ech l := ⟨fun y hy => h.1 y (List.mem_cons_of_mem _ hy), (List.pairwise_cons.1 h.2).2⟩
theorem red_zero (R : List Nat) (h : Ech R) : ∀ v, Spn R v → (∀ x ∈ R, v.testBit x.log2 = false) → v = 0 := by
  induction R with
  | nil => intro v hv _; exact hv
  | cons x l ih =>
    intro v hv hb
    rcases hv with hv | hv
    · exact ih (ech_tail h) v hv (fun y hy => hb y (List.mem_cons_of_mem _ hy))
    · have h1 := Nat.testBit_lt_two_pow (ech_small h _ hv)
      rw [Nat.testBit_xor, hb x List.mem_cons_self, lead_bit x (h.1 x List.mem_cons_self)] at h1
      cases h1
theorem ech_length (R : List Nat) : ∀ b, Ech R → (∀ x ∈ R, x < 2 ^ b) → R.length ≤ b := by
  induction R with
  | nil => intro b _ _; exact Nat.zero_le _
  | cons x l ih =>
    intro b h hb
    have hx := hb x List.mem_cons_self
    have h1 : x.log2 < b := (Nat.log2_lt (h.1 x List.mem_cons_self)).2 hx
    have h2 := ih x.log2 (ech_tail h) (fun y hy => ech_small h y (spn_mem l y hy))
    show l.length + 1 ≤ b
    omega
theorem full_zero (R : List Nat) : ∀ v, Ech R → (∀ x ∈ R, x < 2 ^ R.length) → v < 2 ^ R.length → (∀ x ∈ R, v.testBit x.log2 = false) → v = 0 := by
  induction R with
  | nil => intro v _ _ hv _; simpa using hv
  | cons x l ih =>
    intro v h hb hv hr
    have h1 : x.log2 < l.length + 1 := (Nat.log2_lt (h.1 x List.mem_cons_self)).2 (hb x List.mem_cons_self)
    have h2 := ech_length l x.log2 (ech_tail h) (fun y hy => ech_small h y (spn_mem l y hy))
    have h3 : x.log2 = l.length := by omega
    have hl : ∀ y ∈ l, y < 2 ^ l.length := fun y hy => by have := ech_small h y (spn_mem l y hy); rwa [h3] at this
    have hv2 : v < 2 ^ l.length := by
      refine Nat.lt_pow_two_of_testBit v fun j hj => ?_
      rcases Nat.eq_or_lt_of_le hj with h4 | h4
      · rw [← h4, ← h3]; exact hr x List.mem_cons_self
      · exact Nat.testBit_lt_two_pow (Nat.lt_of_lt_of_le hv (Nat.pow_le_pow_right (by omega) h4))
    exact ih v (ech_tail h) hl hv2 (fun y hy => hr y (List.mem_cons_of_mem _ hy))
end Go.Proofs.YtoledgpcgjdjjaaGreatDoor.Doc
namespace Go.Proofs.YtoledgpcgjdjjaaGreatDoor.Doc
open Pm Gfm

theorem ech_ins (R : List Nat) (v : Nat) (h : Ech R) (hv : v ≠ 0) (hr : ∀ x ∈ R, v.testBit x.log2 = false) : Ech (ins R (posn R v) v) := by
  induction R with
  | nil => exact ⟨fun x hx => by have : x = v := by simpa [ins, posn] using hx
                                 rw [this]; exact hv, by simp [ins, posn]⟩
  | cons x l ih =>
    have hx0 := h.1 x List.mem_cons_self
    have hne : v.log2 ≠ x.log2 := fun e => by
      have h1 := hr x List.mem_cons_self
      rw [← e, lead_bit v hv] at h1
      cases h1
    by_cases hlt : v < x
    · have h1 : v.log2 < x.log2 := by
        rcases Nat.lt_or_ge v.log2 x.log2 with h2 | h2
        · exact h2
        · have h3 : x.log2 < v.log2 := by omega
          have h4 : x < 2 ^ v.log2 := Nat.lt_of_lt_of_le Nat.lt_log2_self (Nat.pow_le_pow_right (by omega) h3)
          have h5 := Nat.log2_self_le hv
          omega
      have ih' := ih (ech_tail h) (fun y hy => hr y (List.mem_cons_of_mem _ hy))
      have e : ins (x :: l) (posn (x :: l) v) v = x :: ins l (posn l v) v := by
        show ins (x :: l) (if v < x then posn l v + 1 else 0) v = _
        rw [if_pos hlt]; rfl
      rw [e]
      refine ⟨fun y hy => ?_, List.pairwise_cons.2 ⟨fun y hy => ?_, ih'.2⟩⟩
      · rcases List.mem_cons.1 hy with rfl | hy
        · exact hx0
        · exact ih'.1 y hy
      · simp only [ins, List.mem_append, List.mem_singleton] at hy
        rcases hy with (hy | rfl) | hy
        · exact (List.pairwise_cons.1 h.2).1 y (List.mem_of_mem_take hy)
        · exact h1
        · exact (List.pairwise_cons.1 h.2).1 y (List.mem_of_mem_drop hy)
    · have h1 : x.log2 < v.log2 := by
        rcases Nat.lt_or_ge x.log2 v.log2 with h2 | h2
        · exact h2
        · have h3 : v.log2 < x.log2 := by omega
          have h4 : v < 2 ^ x.log2 := Nat.lt_of_lt_of_le Nat.lt_log2_self (Nat.pow_le_pow_right (by omega) h3)
          have h5 := Nat.log2_self_le hx0
          omega
      have e : ins (x :: l) (posn (x :: l) v) v = v :: x :: l := by
        show ins (x :: l) (if v < x then posn l v + 1 else 0) v = _
        rw [if_neg hlt]; rfl
      rw [e]
      refine ⟨fun y hy => ?_, List.pairwise_cons.2 ⟨fun y hy => ?_, h.2⟩⟩
      · rcases List.mem_cons.1 hy with rfl | hy
        · exact hv
        · exact h.1 y hy
      · rcases List.mem_cons.1 hy with rfl | hy
        · exact h1
        · have := (List.pairwise_cons.1 h.2).1 y hy
          omega
theorem rd_succ (R M : List Nat) (v m k : Nat) : rd R M v m (k + 1) = if (rd R M v m k).1 ^^^ R.getD k 0 < (rd R M v m k).1 then ((rd R M v m k).1 ^^^ R.getD k 0, (rd R M v m k).2 ^^^ M.getD k 0) else rd R M v m k := rfl
theorem getD_mem {l : List Nat} {k : Nat} (h : k < l.length) : l.getD k 0 ∈ l ∧ l.getD k 0 = l[k] := by
  have e : l.getD k 0 = l[k] := by rw [List.getD_eq_getElem?_getD, List.getElem?_eq_getElem h]; rfl
  exact ⟨by rw [e]; exact List.getElem_mem h, e⟩
theorem rd_spn (R M : List Nat) (v m k : Nat) (hk : k ≤ R.length) : Spn R ((rd R M v m k).1 ^^^ v) := by
  induction k with
  | zero => show Spn R (v ^^^ v); rw [Nat.xor_self]; exact spn_zero R
  | succ k ih =>
    have ih' := ih (by omega)
    rw [rd_succ]
    split
    · have h1 := spn_xor R _ _ ih' (spn_mem R _ (getD_mem (k := k) (by omega)).1)
      show Spn R (((rd R M v m k).1 ^^^ R.getD k 0) ^^^ v)
      rwa [Nat.xor_assoc, Nat.xor_comm v, ← Nat.xor_assoc] at h1
    · exact ih'
theorem rd_bits (R M : List Nat) (v m k : Nat) (h : Ech R) (hk : k ≤ R.length) : ∀ j, j < k → (rd R M v m k).1.testBit (R.getD j 0).log2 = false := by
  induction k with
  | zero => intro j hj; omega
  | succ k ih =>
    have ih' := ih (by omega)
    have hm := getD_mem (l := R) (k := k) (by omega)
    have h0 := h.1 _ hm.1
    have hx := xor_less (rd R M v m k).1 (R.getD k 0) h0
    intro j hj
    rw [rd_succ]
    split
    · rename_i hlt
      have hb := hx.1 hlt
      show ((rd R M v m k).1 ^^^ R.getD k 0).testBit _ = false
      rw [Nat.testBit_xor]
      rcases Nat.lt_or_ge j k with h1 | h1
      · have hlg : (R.getD k 0).log2 < (R.getD j 0).log2 := by
          rw [hm.2, (getD_mem (l := R) (k := j) (by omega)).2]
          exact List.pairwise_iff_getElem.1 h.2 j k (by omega) (by omega) h1
        rw [ih' j h1, over_bit _ _ hlg]; rfl
      · obtain rfl : j = k := by omega
        rw [hb, lead_bit _ h0]; rfl
    · rename_i hlt
      rcases Nat.lt_or_ge j k with h1 | h1
      · exact ih' j h1
      · obtain rfl : j = k := by omega
        cases hv : (rd R M v m j).1.testBit (R.getD j 0).log2 with
        | false => rfl
        | true => exact absurd (hx.2 hv) hlt
end Go.Proofs.YtoledgpcgjdjjaaGreatDoor.Doc

/- Walk over the document's own least polynomial; Walk over the document's own least polynomial; The document's elimination: it finds the least relation. Plain; The document's least polynomial is the product over the roots. Plain; Same on lists that differ; what an append of a slice leaves; Walk over the document's own Generator. -/
namespace Go.Proofs.YtoledgpcgjdjjaaGreatDoor.Doc
open Go.RowKit Pm Gfm
attribute [local irreducible] Pm.exps

section
variable {P : Program} (w : World)
theorem run_slice_lo (t e : TypeId) (i : TypeInfo) (ht : P.underlying t = some (.slice e)) (hi : P.info? e = some i) (A : Option Addr) (n c k : Nat) (hk : k ≤ n) (hc : n ≤ c) :
    (Instr.sliceAt t (.slice A n c) none (some (.int .i64 k)) none).run P w = .ok (.slice (if c = 0 then A else A.map (·.add 0)) k c) w := by
  have h1 : (k : Int) ≤ (c : Int) := by omega
  simp [Instr.sliceAt, Instr.slice, run_underlying ht, Instr.sliceBounds, run_sliceBound, sizeOf, typeInfo, hi, h1]
theorem run_slice_hi (t e : TypeId) (i : TypeInfo) (ht : P.underlying t = some (.slice e)) (hi : P.info? e = some i) (hsize : i.size = 1) (A : Option Addr) (n c k : Nat) (hk : k ≤ n) :
    (Instr.sliceAt t (.slice A n c) (some (.int .i64 k)) none none).run P w = .ok (.slice (if c = k then A else A.map (·.add k)) (n - k) (c - k)) w := by
  have h1 : (k : Int) ≤ (n : Int) := by omega
  simp [Instr.sliceAt, Instr.slice, run_underlying ht, Instr.sliceBounds, run_sliceBound, sizeOf, typeInfo, hi, hsize, h1]
end

def mres (r : Nat) : Nat → Nat → Nat
  | _, 0 => 0
  | d, f + 1 => if (ez r d).1 = 0 then (ez r d).2 else mres r (d + 1) f
end Go.Proofs.YtoledgpcgjdjjaaGreatDoor.Doc
namespace Go.Proofs.YtoledgpcgjdjjaaGreatDoor.Doc
open Go.RowKit Pm Gfm
attribute [local irreducible] Pm.exps

end Go.Proofs.YtoledgpcgjdjjaaGreatDoor.Doc
namespace Go.Proofs.YtoledgpcgjdjjaaGreatDoor.Doc
open Pm Gfm

theorem evs_lst_succ (K n m : Nat) : evs K (lst (n + 1) m) = (if m.testBit n then pw (K * n) else 0) ^^^ evs K (lst n m) := by
  have e : lst (n + 1) m = if m.testBit n then (n : Int) :: lst n m else lst n m := rfl
  rw [e]
  split
  · show pw (trn ((K : Int) * (n : Int))) ^^^ _ = _
    rw [pw_trn]
  · rw [Nat.zero_xor]
theorem el_p (K d : Nat) : (el (pw K) d).2.2 = pw (K * d) := by
  induction d with
  | zero => rfl
  | succ d ih =>
    rw [el_succ]
    show mul (el (pw K) d).2.2 (pw K) = _
    rw [ih, mul_pw]; rfl
theorem ez_bits (r d : Nat) (h : Ech (el r d).1) : ∀ x ∈ (el r d).1, (ez r d).1.testBit x.log2 = false := by
  intro x hx
  obtain ⟨j, hj, rfl⟩ := List.getElem_of_mem hx
  have hl := (el_length r d).1
  have := rd_bits (el r d).1 (el r d).2.1 (el r d).2.2 (2 ^ d) d h (by omega) j (by omega)
  rwa [(getD_mem hj).2] at this
theorem ez_spn (r d : Nat) : Spn (el r d).1 ((ez r d).1 ^^^ (el r d).2.2) := rd_spn _ _ _ _ _ (by rw [(el_length r d).1]; exact Nat.le_refl _)
theorem el_ech (K d : Nat) (h : ∀ j, j < d → (ez (pw K) j).1 ≠ 0) : Ech (el (pw K) d).1 ∧ ∀ j, j < d → Spn (el (pw K) d).1 (pw (K * j)) := by
  induction d with
  | zero => exact ⟨⟨fun x hx => (by cases hx), List.Pairwise.nil⟩, fun j hj => absurd hj (by omega)⟩
  | succ d ih =>
    obtain ⟨h1, h2⟩ := ih (fun j hj => h j (by omega))
    have e : (el (pw K) (d + 1)).1 = ins (el (pw K) d).1 (posn (el (pw K) d).1 (ez (pw K) d).1) (ez (pw K) d).1 := by rw [el_succ]
    have hsub : ∀ v, Spn (el (pw K) d).1 v → Spn (el (pw K) (d + 1)).1 v := spn_sub _ _ fun x hx => spn_mem _ _ (by
      rw [e]
      generalize posn (el (pw K) d).1 (ez (pw K) d).1 = i
      rw [← List.take_append_drop i (el (pw K) d).1] at hx
      simp only [ins, List.mem_append, List.mem_singleton] at hx ⊢
      rcases hx with hx | hx
      · exact .inl (.inl hx)
      · exact .inr hx)
    have hz : Spn (el (pw K) (d + 1)).1 (ez (pw K) d).1 := spn_mem _ _ (by rw [e]; simp [ins])
    refine ⟨?_, fun j hj => ?_⟩
    · rw [e]; exact ech_ins _ _ h1 (h d (by omega)) (ez_bits _ _ h1)
    · rcases Nat.lt_or_ge j d with h3 | h3
      · exact hsub _ (h2 j h3)
      · obtain rfl : j = d := by omega
        have := spn_xor _ _ _ hz (hsub _ (ez_spn (pw K) j))
        rwa [← Nat.xor_assoc, Nat.xor_self, Nat.zero_xor, el_p] at this
theorem ez_zero (K d : Nat) (h : ∀ j, j < d → (ez (pw K) j).1 ≠ 0) (hs : Spn (el (pw K) d).1 (pw (K * d))) : (ez (pw K) d).1 = 0 := by
  obtain ⟨h1, _⟩ := el_ech K d h
  refine red_zero _ h1 _ ?_ (ez_bits _ _ h1)
  have := spn_xor _ _ _ (ez_spn (pw K) d) hs
  rwa [el_p, Nat.xor_assoc, Nat.xor_self, Nat.xor_zero] at this
theorem spn_lst (K d m n : Nat) (h : ∀ j, j < d → (ez (pw K) j).1 ≠ 0) (hn : n ≤ d) : Spn (el (pw K) d).1 (evs K (lst n m)) := by
  induction n with
  | zero => exact spn_zero _
  | succ n ih =>
    rw [evs_lst_succ]
    refine spn_xor _ _ _ ?_ (ih (by omega))
    split
    · exact (el_ech K d h).2 n (by omega)
    · exact spn_zero _
theorem free (K d : Nat) (h : ∀ j, j < d → (ez (pw K) j).1 ≠ 0) : ∀ m, m < 2 ^ d → evs K (lst d m) = 0 → m = 0 := by
  induction d with
  | zero => intro m hm _; simpa using hm
  | succ d ih =>
    intro m hm he
    have ih' := ih (fun j hj => h j (by omega))
    rw [evs_lst_succ] at he
    by_cases hb : m.testBit d = true
    · rw [if_pos hb] at he
      have h1 := spn_lst K d m d (fun j hj => h j (by omega)) (Nat.le_refl _)
      rw [← (xor_zero_iff _ _).1 he] at h1
      exact absurd (ez_zero K d (fun j hj => h j (by omega)) h1) (h d (by omega))
    · rw [if_neg hb, Nat.zero_xor] at he
      refine ih' m ?_ he
      refine Nat.lt_pow_two_of_testBit m fun j hj => ?_
      rcases Nat.eq_or_lt_of_le hj with h4 | h4
      · rw [← h4]; simpa using hb
      · exact Nat.testBit_lt_two_pow (Nat.lt_of_lt_of_le hm (Nat.pow_le_pow_right (by omega) h4))
theorem found (K : Nat) : ∃ d, d ≤ 13 ∧ (ez (pw K) d).1 = 0 ∧ ∀ j, j < d → (ez (pw K) j).1 ≠ 0 := by
  have key : ∀ n, n ≤ 13 → (∃ d, d < n ∧ (ez (pw K) d).1 = 0 ∧ ∀ j, j < d → (ez (pw K) j).1 ≠ 0) ∨ ∀ j, j < n → (ez (pw K) j).1 ≠ 0 := by
    intro n
    induction n with
    | zero => intro _; exact .inr fun j hj => absurd hj (by omega)
    | succ n ih =>
      intro hn
      rcases ih (by omega) with ⟨d, h1, h2⟩ | h
      · exact .inl ⟨d, by omega, h2⟩
      · by_cases hz : (ez (pw K) n).1 = 0
        · exact .inl ⟨n, by omega, hz, h⟩
        · refine .inr fun j hj => ?_
          rcases Nat.lt_or_ge j n with h3 | h3
          · exact h j h3
          · rw [show j = n by omega]; exact hz
  rcases key 13 (Nat.le_refl _) with ⟨d, h1, h2⟩ | h
  · exact ⟨d, by omega, h2⟩
  · refine ⟨13, Nat.le_refl _, ?_, h⟩
    obtain ⟨h1, _⟩ := el_ech K 13 h
    have hl := (el_length (pw K) 13).1
    have ht := (el_tiny (pw K) 13 (by omega)).1
    have hz := (ez_lt (pw K) 13 (by omega)).1
    exact full_zero _ _ h1 (by rw [hl]; exact ht) (by rw [hl]; exact hz) (ez_bits _ _ h1)
end Go.Proofs.YtoledgpcgjdjjaaGreatDoor.Doc
namespace Go.Proofs.YtoledgpcgjdjjaaGreatDoor.Doc
open Pm Gfm

end Go.Proofs.YtoledgpcgjdjjaaGreatDoor.Doc
namespace Go.Proofs.YtoledgpcgjdjjaaGreatDoor.Doc
open Go.RowKit Pm Gfm

end Go.Proofs.YtoledgpcgjdjjaaGreatDoor.Doc
namespace Go.Proofs.YtoledgpcgjdjjaaGreatDoor.Doc
open Go.RowKit Pm Gfm
attribute [local irreducible] Pm.exps pmul mp GG mpol mres

end Go.Proofs.YtoledgpcgjdjjaaGreatDoor.Doc
