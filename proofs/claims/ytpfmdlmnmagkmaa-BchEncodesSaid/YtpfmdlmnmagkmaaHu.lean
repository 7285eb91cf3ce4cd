/- Walks over package poly: withRoot. -/
import Derived.Test.YtpfmdlmnmagkmaaPj
import Derived.Test.YtpfmdlmnmagkmaaHg
import Derived.Deep.RegionHeld3
namespace Go.Proofs.Ytpfmdlmnmagkmaa
open Go.RowKit Pm Gfm

/-- x + root times a polynomial over the field, told by its coefficients -/
def wco (p : List Nat) (r j : Nat) : Nat := (if j = 0 then 0 else p.getD (j - 1) 0) ^^^ (if j < p.length then mul (p.getD j 0) r else 0)
def wroot (p : List Nat) (r : Nat) : List Nat := (List.range (p.length + 1)).map (wco p r)
theorem wroot_length (p : List Nat) (r : Nat) : (wroot p r).length = p.length + 1 := by simp [wroot]
theorem wroot_getD (p : List Nat) (r j : Nat) (h : j < p.length + 1) : (wroot p r).getD j 0 = wco p r j := by
  simp [wroot, List.getD_eq_getElem?_getD, h]
/-- numbers of the field -/
def Small (p : List Nat) : Prop := ∀ x ∈ p, x < 8192
theorem Small.getD {p : List Nat} (h : Small p) (j : Nat) : p.getD j 0 < 8192 := by
  rw [List.getD_eq_getElem?_getD]
  cases hx : p[j]? with
  | none => simp
  | some x => exact h x (List.mem_of_getElem? hx)
theorem wco_lt {p : List Nat} (h : Small p) (r j : Nat) : wco p r j < 8192 := by
  unfold wco
  refine xor_lt _ _ ?_ ?_
  · split
    · omega
    · exact h.getD _
  · split
    · exact mul_lt _ _ (h.getD _)
    · omega
theorem wroot_small {p : List Nat} (h : Small p) (r : Nat) : Small (wroot p r) := fun x hx => by
  obtain ⟨j, _, rfl⟩ := List.mem_map.1 hx
  exact wco_lt h r j
def nats (p : List Nat) : List Int := p.map fun n : Nat => (n : Int)
theorem nats_length (p : List Nat) : (nats p).length = p.length := by simp [nats]
theorem nats_getD (p : List Nat) (j : Nat) : (nats p).getD j 0 = ((p.getD j 0 : Nat) : Int) := by
  simp only [nats, List.getD_eq_getElem?_getD, List.getElem?_map]
  cases p[j]? <;> rfl
theorem low_nat (a : Nat) (h : a < 8192) : low (a : Int) = a := by unfold low; omega
theorem hor_two (r a b : Nat) (hr : r < 8192) (ha : a < 8192) (hb : b < 8192) : hor (low (r : Int)) [(a : Int), (b : Int)] = mul b r ^^^ a := by
  show mul (mul 0 (low r) ^^^ low b) (low r) ^^^ low a = _
  rw [low_nat r hr, low_nat a ha, low_nat b hb, zero_mul, Nat.zero_xor]
/-- what the product's row reads as behind k rounds -/
def prow (p : List Nat) (r k j : Nat) : Value := .int .i64 ((if j < k then wco p r j else 0 : Nat) : Int)
theorem prow_succ (p : List Nat) (r k j : Nat) : prow p r (k + 1) j = if j = k then .int .i64 ((wco p r k : Nat) : Int) else prow p r k j := by
  unfold prow
  by_cases h : j = k
  · subst h; rw [if_pos (by omega), if_pos rfl]
  · rw [if_neg h]
    have : j < k + 1 ↔ j < k := by omega
    simp only [this]
set_option maxRecDepth 20000 in
set_option maxHeartbeats 1600000 in
theorem withRoot_any (b : Spt) (n : Int) (a : Option Addr) (cap B : Nat) (p : List Nat) (r : Nat) (w : World) (h : Ready w b n) (hr : Ints w B a p.length (nats p)) (hB : B ≤ w.heap.size)
    (h1 : 1 ≤ p.length) (h2 : p.length ≤ 100) (hp : Small p) (hr8 : r < 8192) :
    Calls Try.prog 69 #[.pointer (some ⟨b.blk, b.off, none⟩), .slice a p.length cap, .int .i64 (r : Int)] w fun e w' =>
      e = .returned (.slice (some ⟨w.heap.size, 0, none⟩) (p.length + 1) (p.length + 1)) ∧ w'.rowIs w.heap.size 3 (p.length + 1) (prow p r (p.length + 1)) ∧ Upd noBlock w w' := by
  have hmk : ∀ w : World, (Instr.makeSlice 34 (.int .i64 ((p.length : Int) + 1)) (.int .i64 ((p.length : Int) + 1))).run Try.prog w = .ok (.slice (some ⟨w.heap.size, 0, none⟩) (p.length + 1) (p.length + 1)) (w.alloc (.cells (madeCells #[.int .i64 0] (p.length + 1)) 3)) := by
    have := run_make_row' (P := Try.prog) 34 3 (.int .i64 0) 8 Try.underlying34 intCells rfl .i64 .i64 (p.length + 1) (by omega) (by omega)
    exact this
  obtain ⟨O, HO⟩ : ∃ O : Obj, Hid (O = .cells (madeCells #[.int .i64 0] (p.length + 1)) 3) := ⟨_, rfl⟩
  rw [← HO.out] at hmk
  have HRD : Hid (∀ w', Upd noBlock w w' → Ready w' b n) := fun w' hu => h.upd hu
  have HIN : Hid (∀ w', Upd noBlock w w' → ∀ j, j < p.length → ∃ g off, a = some ⟨g, off, none⟩ ∧ g < w.heap.size ∧ w'.cell? ⟨g, off + j, none⟩ = some (.int .i64 ((p.getD j 0 : Nat) : Int))) := fun w' hu j hj => by
    obtain ⟨g, off, e, hg, hc⟩ := (hr.grow hu hB).cell (by omega)
    refine ⟨g, off, e, by omega, ?_⟩
    have := hc j hj
    rw [nats_getD] at this; exact this
  have HU : Hid (Upd noBlock w (w.alloc O)) := (Upd.refl noBlock w).alloc _
  have HRW : Hid ((w.alloc O).rowIs w.heap.size 3 (p.length + 1) (prow p r 0)) := by
    rw [HO.out]
    exact (World.rowIs_made w (.int .i64 0) (p.length + 1) 3).congr (fun i _ => by simp [prow])
  have HP := Lib.hid hp
  obtain ⟨m, Hm⟩ : ∃ m, Hid (p.length = m) := ⟨_, rfl⟩
  rw [Hm.out] at hmk HRW HIN h1 h2
  rw [Hm.out]
  obtain ⟨g, off, rfl, hgw, c0⟩ := HIN.out _ HU.out 0 (by omega)
  have hg0 : (0 : Int) < (m : Int) := by omega
  clear h hr hp
  obtain ⟨q0, Hq0⟩ : ∃ q, Hid (p.getD 0 0 = q) := ⟨_, rfl⟩
  rw [Hq0.out, Nat.add_zero] at c0
  have hu0 : Upd noBlock (w.alloc O) ((w.alloc O).alloc (.cells #[.int .i64 0, .int .i64 (q0 : Int)] 3)) := (Upd.refl _ _).alloc _
  have HU0 := Lib.hid hu0
  have hi2 := ints2 (w.alloc O) 0 (q0 : Int)
  rw [World.size_alloc] at hi2
  have HI2 := Lib.hid hi2
  clear hu0 hi2
  go_enter Try.func69, Try.ntmps69
  go_wp2_with fail
  refine (eval_ready b n _ _ 2 2 _ _ _ (HRD.out _ (HU.out.trans HU0.out)) HI2.out (by simp) (by unfold maxLen; omega)).mono ?_
  rintro e w3 ⟨rfl, _, hu3⟩
  have hq8 : q0 < 8192 := by rw [← Hq0.out]; exact HP.out.getD 0
  have e3 : hor (low (r : Int)) [0, (q0 : Int)] = wco p r 0 := by
    have := hor_two r 0 q0 hr8 (by omega) hq8
    rw [Int.natCast_zero] at this
    rw [this]
    unfold wco
    rw [if_pos rfl, if_pos (by rw [Hm.out]; omega), Hq0.out, Nat.xor_comm]
  rw [e3]
  have HU3 := Lib.hid ((HU.out.trans HU0.out).trans hu3)
  have HRW3 := Lib.hid ((HRW.out.of_block (HU0.out.block _ HRW.out.lt (fun h => h))).of_block (hu3.block w.heap.size (by simp; omega) (fun h => h)))
  have HRW4 : Hid ((w3.setCell ⟨w.heap.size, 0, none⟩ (.int .i64 ((wco p r 0 : Nat) : Int))).rowIs w.heap.size 3 (m + 1) (prow p r 1)) :=
    (HRW3.out.set 0 _).congr (fun i _ => (prow_succ p r 0 i).symm)
  have HU4 : Hid (Upd noBlock w (w3.setCell ⟨w.heap.size, 0, none⟩ (.int .i64 ((wco p r 0 : Nat) : Int)))) := HU3.out.setCell (.inr (Nat.le_refl _)) _
  have c4 := HRW3.out.cell (i := 0) (by omega)
  have f4 := HRW3.out.frozen 0
  clear hu3 HRW3 HRW HU HU3 HU0 c0 e3 HO
  generalize wco p r 0 = z0 at *
  generalize prow p r 0 0 = v0 at c4
  have hm0 : (0 : Int) < (m : Int) + 1 := by omega
  go_wp2
  clear c4 f4 hmk
  go_loopw [8] (fun i wr => ∃ k : Nat, 1 ≤ k ∧ k ≤ m ∧ i = .int .i64 (k : Int) ∧ Hid (wr.rowIs w.heap.size 3 (m + 1) (prow p r k)) ∧ Hid (Upd noBlock w wr)) (fun i _ => m - (intOf i).toNat)
  case atStart => exact ⟨1, Nat.le_refl _, h1, rfl, HRW4, HU4⟩
  case round =>
    clear HRW4 HU4
    obtain ⟨k, hk1, hk, rfl, HRW, HU⟩ := hrel
    by_cases h0 : k < m
    · obtain ⟨g', off', hgo, _, cb⟩ := HIN.out wr HU.out k h0
      obtain ⟨rfl, rfl⟩ : g = g' ∧ off = off' := by simpa using hgo
      obtain ⟨g', off', hgo2, _, ca⟩ := HIN.out wr HU.out (k - 1) (by omega)
      obtain ⟨rfl, rfl⟩ : g = g' ∧ off = off' := by simpa using hgo2
      obtain ⟨i, Hi⟩ : ∃ i, Hid (k - 1 = i) := ⟨_, rfl⟩
      rw [Hi.out] at ca
      have hik : Hid (k = i + 1) := by have := Hi.out; show k = i + 1; omega
      obtain ⟨qa, Hqa⟩ : ∃ q, Hid (p.getD i 0 = q) := ⟨_, rfl⟩
      obtain ⟨qb, Hqb⟩ : ∃ q, Hid (p.getD k 0 = q) := ⟨_, rfl⟩
      rw [Hqa.out] at ca
      rw [Hqb.out] at cb
      have ha8 : qa < 8192 := by rw [← Hqa.out]; exact HP.out.getD _
      have hb8 : qb < 8192 := by rw [← Hqb.out]; exact HP.out.getD _
      have he : hor (low (r : Int)) [(qa : Int), (qb : Int)] = wco p r k := by
        rw [hor_two r qa qb hr8 ha8 hb8]
        unfold wco
        rw [if_neg (by omega), if_pos (by rw [Hm.out]; omega), Hi.out, Hqa.out, Hqb.out, Nat.xor_comm]
      have HE := Lib.hid he
      have HEV : Hid (∀ (W : World) (h : Nat), Upd noBlock wr W → Ints W W.heap.size (some ⟨h, 0, none⟩) 2 [(qa : Int), (qb : Int)] →
          Calls Try.prog 83 #[.pointer (some ⟨b.blk, b.off, none⟩), .slice (some ⟨h, 0, none⟩) 2 2, .int .i64 (r : Int)] W fun e w' => e = .returned (.int .i64 ((wco p r k : Nat) : Int)) ∧ w'.rowIs w.heap.size 3 (m + 1) (prow p r k) ∧ Upd noBlock w w') := fun W h huw hi => by
        have hu := HU.out.trans huw
        have hrow := HRW.out.of_block (huw.block _ HRW.out.lt (fun h => h))
        refine (eval_ready b n _ _ 2 2 _ _ _ (HRD.out _ hu) hi (Nat.le_refl _) (by unfold maxLen; omega)).mono ?_
        rintro e w' ⟨rfl, _, hu2⟩
        exact ⟨by rw [HE.out], hrow.of_block (hu2.block _ hrow.lt (fun h => h)), hu.trans hu2⟩
      have HFIN : Hid (∀ W : World, Upd noBlock w W → W.rowIs w.heap.size 3 (m + 1) (prow p r k) → (W.setCell ⟨w.heap.size, k, none⟩ (.int .i64 ((wco p r k : Nat) : Int))).rowIs w.heap.size 3 (m + 1) (prow p r (k + 1)) ∧ Upd noBlock w (W.setCell ⟨w.heap.size, k, none⟩ (.int .i64 ((wco p r k : Nat) : Int)))) := fun W hu hrow =>
        ⟨(hrow.set k _).congr (fun j _ => (prow_succ p r k j).symm), hu.setCell (.inr (Nat.le_refl _)) _⟩
      have HC : Hid (∀ W : World, W.rowIs w.heap.size 3 (m + 1) (prow p r k) → W.cell? ⟨w.heap.size, k, none⟩ = some (prow p r k k) ∧ W.frozen? ⟨w.heap.size, k, none⟩ = false) := fun W hrow => ⟨hrow.cell (i := k) (by omega), hrow.frozen _⟩
      clear hgo hgo2 he hk1
      generalize wco p r k = z at *
      generalize prow p r k k = vz at *
      have hi1 : (k : Int) < (m : Int) + 1 := by omega
      have hi2 : (k : Int) < (m : Int) := by omega
      have hsub : (k : Int) - 1 = (i : Int) := by have := hik.out; omega
      have hi3 : (i : Int) < (m : Int) := by have := hik.out; omega
      have hi5 : i < m := by have := hik.out; omega
      have hi6 : (0 : Int) ≤ (i : Int) := by omega
      have hi7 : (0 : Int) ≤ (k : Int) := by omega
      have hw1 : IntKind.i64.wrap (i : Int) = (i : Int) := IntWalk.i64_in _ (by omega)
      go_wp2_with fail
      go_region_with (go_at_call 83; refine (HEV.out _ _ (by first | exact ((Upd.refl _ _).drew.alloc _) | exact ((Upd.refl _ _).alloc _).drew | exact ((Upd.refl _ _).alloc _) | exact ((Upd.refl _ _).drew.drew.alloc _)) (by first | exact ints2 _ _ _ | exact (ints2 _ _ _).more (by simp))).mono ?_; rintro e w5 ⟨rfl, hr5, hu5⟩; have c5 := (HC.out _ hr5).1; have f5 := (HC.out _ hr5).2)
      all_goals
        have hend := HFIN.out _ hu5 hr5
        have HE1 := Lib.hid hend.1
        have HE2 := Lib.hid hend.2
        clear hend
        go_wp2
        go_roundw
        case rel => exact ⟨k + 1, by omega, by omega, by go_num, HE1, HE2⟩
        case measure => simp [intOf]; omega
    · obtain rfl : k = m := by omega
      obtain ⟨i, Hi⟩ : ∃ i, Hid (k - 1 = i) := ⟨_, rfl⟩
      obtain ⟨g', off', hgo2, _, ca⟩ := HIN.out wr HU.out (k - 1) (by omega)
      obtain ⟨rfl, rfl⟩ : g = g' ∧ off = off' := by simpa using hgo2
      rw [Hi.out] at ca
      have hik : Hid (k = i + 1) := by have := Hi.out; show k = i + 1; omega
      have hv : p.getD i 0 = wco p r k := by
        unfold wco
        rw [if_neg (by omega), if_neg (by rw [Hm.out]; omega), Hi.out, Nat.xor_zero]
      rw [hv] at ca
      have HR2 : Hid ((wr.setCell ⟨w.heap.size, k, none⟩ (.int .i64 ((wco p r k : Nat) : Int))).rowIs w.heap.size 3 (k + 1) (prow p r (k + 1))) := (HRW.out.set k _).congr (fun j _ => (prow_succ p r k j).symm)
      have HU2 : Hid (Upd noBlock w (wr.setCell ⟨w.heap.size, k, none⟩ (.int .i64 ((wco p r k : Nat) : Int)))) := HU.out.setCell (.inr (Nat.le_refl _)) _
      have c5 := HRW.out.cell (i := k) (by omega)
      have f5 := HRW.out.frozen k
      generalize wco p r k = z at *
      generalize prow p r k k = vz at *
      have hi1 : (k : Int) < (k : Int) + 1 := by omega
      have hsub : (k : Int) - 1 = (i : Int) := by have := hik.out; omega
      have hi3 : (i : Int) < (k : Int) := by have := hik.out; omega
      have hi5 : i < k := by have := hik.out; omega
      clear hgo2 hv
      go_wp2
      go_ret
      exact ⟨rfl, HR2.out, HU2.out⟩
end Go.Proofs.Ytpfmdlmnmagkmaa
