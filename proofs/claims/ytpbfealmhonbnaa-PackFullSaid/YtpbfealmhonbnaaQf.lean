/- Pages; PackPages. -/
import Derived.Test.YtpbfealmhonbnaaQe
import Derived.Test.YtpbfealmhonbnaaApp
import Derived.Deep.OwnRows
namespace Go.Proofs.Ytpbfealmhonbnaa
open Go.RowKit

/-- what is held, and how many pages were given, behind texts of these lengths -/
def pstep (s : Nat) (a : Nat × Nat) (x : Int) : Nat × Nat := if a.1 + x.toNat ≤ s then (a.1 + x.toNat, a.2) else (x.toNat, a.2 + 1)
def pst (s : Nat) (L : List Int) : Nat × Nat := L.foldl (pstep s) (0, 0)
theorem pst_snoc (s : Nat) (L : List Int) (x : Int) : pst s (L ++ [x]) = pstep s (pst s L) x := by unfold pst; rw [List.foldl_append]; rfl
def goodQ (s : Nat) (L : List Int) : Bool := L.all fun x => decide (1 ≤ x ∧ x ≤ (s : Int))
theorem goodQ_snoc (s : Nat) (L : List Int) (x : Int) : goodQ s (L ++ [x]) = (goodQ s L && decide (1 ≤ x ∧ x ≤ (s : Int))) := by unfold goodQ; simp
theorem goodQ_bad (s : Nat) (L : List Int) (k : Nat) (h : k < L.length) (hb : ¬ (1 ≤ L.getD k 0 ∧ L.getD k 0 ≤ (s : Int))) : goodQ s L = false := by
  unfold goodQ
  rw [List.all_eq_false]
  rw [List.getD_eq_getElem?_getD, List.getElem?_eq_getElem h] at hb
  exact ⟨L[k], List.getElem_mem _, by simpa using hb⟩
theorem takeI (L : List Int) (k : Nat) (h : k < L.length) : L.take (k + 1) = L.take k ++ [L.getD k 0] := by
  rw [List.take_add_one, List.getD_eq_getElem?_getD, List.getElem?_eq_getElem h]; rfl
/-- all pages, with the one that is flushed -/
def pall (a : Nat × Nat) : Nat := a.2 + if 0 < a.1 then 1 else 0

set_option maxRecDepth 20000 in
set_option maxHeartbeats 800000 in
theorem pages_any (x : Int) (a : Option Addr) (n c B : Nat) (zs : List Int) (w : World) (hr : Ints w B a n zs) (hB : B ≤ w.heap.size) (hn : n ≤ 17592186044416) (h1 : -9223372036854775808 ≤ x) (h2 : x ≤ 9223372036854775807) :
    Calls Try.prog 14 #[.int .i64 x, .slice a n c] w fun e w' => e = .returned (.tuple #[.int .i64 ((if goodQ (szQ x) zs = true then pall (pst (szQ x) zs) else 0 : Nat) : Int), .bool (goodQ (szQ x) zs)]) ∧ Upd noBlock w w' := by
  have HR := Lib.hid hr
  have HBB := Lib.hid hB
  have HN := Lib.hid hn
  have HL := Lib.hid hr.1
  have hnb : n ≤ 9223372036854775807 := by omega
  have HE := Lib.hid (fun w => empty_any x w h1 h2)
  have hs12 := szQ_le x
  obtain ⟨s, hs⟩ : ∃ s, szQ x = s := ⟨_, rfl⟩
  rw [hs] at HE hs12 ⊢
  have HS1 := Lib.hid hs12
  obtain ⟨hs1, hs2⟩ := hs12
  obtain ⟨V, hV⟩ : ∃ V : Nat, (if goodQ s zs = true then pall (pst s zs) else 0) = V := ⟨_, rfl⟩
  obtain ⟨G, hG⟩ : ∃ G : Bool, goodQ s zs = G := ⟨_, rfl⟩
  rw [hV, hG]
  have HV := Lib.hid hV
  have HGG := Lib.hid hG
  clear hr hB hn hs h1 h2 hV hG
  go_enter Try.func14, Try.ntmps14
  go_wp2_with (go_at_call 15; refine (HE.out _).mono ?_; rintro e w1 ⟨rfl, u1⟩; have U1 := Lib.hid u1; clear u1)
  have HF : Hid ((w1.alloc (.cells #[.int .i64 (s : Int), .int .i64 0, .int .i64 0] 47)).heap[w1.heap.size]? = some (.cells #[.int .i64 (s : Int), .int .i64 0, .int .i64 0] 47 (0, 0)) ∧ Upd noBlock w (w1.alloc (.cells #[.int .i64 (s : Int), .int .i64 0, .int .i64 0] 47)) ∧ w.heap.size ≤ w1.heap.size) := ⟨heap_alloc_new w1 _, U1.out.alloc _, U1.out.size⟩
  generalize w1.alloc (.cells #[.int .i64 (s : Int), .int .i64 0, .int .i64 0] 47) = wb at *
  generalize w1.heap.size = f at *
  clear HE U1
  go_loopw [13] (fun i wr => ∃ k h p : Nat, k ≤ n ∧ i = .int .i64 (k : Int) ∧ Hid (pst s (zs.take k) = (h, p)) ∧ Hid (goodQ s (zs.take k) = true) ∧ h ≤ s ∧ p ≤ k ∧ Hid (wr.heap[f]? = some (.cells #[.int .i64 (s : Int), .int .i64 (h : Int), .int .i64 (p : Int)] 47 (0, 0))) ∧ Hid (Upd noBlock w wr)) (fun i _ => n - (intOf i).toNat)
  case atStart => exact ⟨0, 0, 0, Nat.zero_le _, rfl, rfl, rfl, Nat.zero_le _, Nat.le_refl _, HF.out.1, HF.out.2.1⟩
  case round =>
    obtain ⟨k, h, p, hk, rfl, HP, HG, hh, hp, HC, HU⟩ := hrel
    by_cases h0 : k < n
    · obtain ⟨b, off, hab, hb, hc⟩ := (HR.out.grow HU.out HBB.out).cell (by omega)
      subst hab
      have c1 := hc k h0
      have c0 : wr.cell? ⟨f, 0, none⟩ = some (.int .i64 (s : Int)) := cell_of HC.out 0
      have HT := Lib.hid (takeI zs k (by rw [HL.out]; exact h0))
      by_cases hx : 1 ≤ zs.getD k 0 ∧ zs.getD k 0 ≤ (s : Int)
      · have HX := Lib.hid hx
        obtain ⟨m, hm⟩ : ∃ m : Nat, zs.getD k 0 = (m : Int) := ⟨(zs.getD k 0).toNat, by omega⟩
        rw [hm] at c1 hx
        have HG' : Hid (goodQ s (zs.take (k + 1)) = true) := by
          show _ = _
          rw [HT.out, goodQ_snoc, HG.out, decide_eq_true HX.out]; rfl
        have HP' : Hid (pst s (zs.take (k + 1)) = if h + m ≤ s then (h + m, p) else (m, p + 1)) := by
          show _ = _
          rw [HT.out, pst_snoc, HP.out, hm]; rfl
        obtain ⟨hx1, hx2⟩ := hx
        clear hc hm
        by_cases hf : h + m ≤ s
        · rw [if_pos hf] at HP'
          have HA := Lib.hid (fadd_fits f s h m _ _ wr HC.out rfl rfl hs2 hf)
          go_wp2_with (go_at_call 18; refine HA.out.mono ?_; rintro e w2 ⟨rfl, hb2, u2⟩; have HB2 := Lib.hid hb2; have HU2 := Lib.hid (HU.out.step u2 (fun i hi e => absurd (show i = f from e) (by have := HF.out.2.2; omega))); clear hb2 u2)
          go_roundw
          case rel => exact ⟨k + 1, h + m, p, by omega, by go_num, HP', HG', hf, by omega, HB2, HU2⟩
          case measure => simp [intOf]; omega
        · rw [if_neg hf] at HP'
          have HA := Lib.hid (fadd_full f s h p m _ _ wr HC.out rfl rfl rfl hs2 hh (by omega) (by omega) (by have := HN.out; omega))
          go_wp2_with (go_at_call 18; refine HA.out.mono ?_; rintro e w2 ⟨rfl, hb2, u2⟩; have HB2 := Lib.hid hb2; have HU2 := Lib.hid (HU.out.step u2 (fun i hi e => absurd (show i = f from e) (by have := HF.out.2.2; omega))); clear hb2 u2)
          go_roundw
          case rel => exact ⟨k + 1, m, p + 1, by omega, by go_num, HP', HG', by omega, by omega, HB2, HU2⟩
          case measure => simp [intOf]; omega
      · have HX := Lib.hid (goodQ_bad s zs k (by rw [HL.out]; exact h0) hx)
        generalize zs.getD k 0 = z at *
        clear hc
        by_cases hz : z < 1
        · go_wp2_with fail
          go_ret2
          refine ⟨?_, HU.out⟩
          have e1 := HV.out
          have e2 := HGG.out
          rw [HX.out] at e1 e2
          rw [← e1, ← e2]; rfl
        · have hz2 : (s : Int) < z := by omega
          clear hx
          go_wp2_with fail
          go_ret2
          refine ⟨?_, HU.out⟩
          have e1 := HV.out
          have e2 := HGG.out
          rw [HX.out] at e1 e2
          rw [← e1, ← e2]; rfl
    · obtain rfl : k = n := by omega
      have e : zs.take k = zs := List.take_of_length_le (by rw [HL.out]; omega)
      rw [e] at HP HG
      by_cases hz : 0 < h
      · have HA := Lib.hid (fend_some f h p _ _ wr HC.out rfl rfl hz (by have := HN.out; omega))
        go_wp2_with (go_at_call 16; refine HA.out.mono ?_; rintro e w2 ⟨rfl, hb2, u2⟩; have c2 : w2.cell? ⟨f, 2, none⟩ = some (.int .i64 ((p : Int) + 1)) := cell_of hb2 2; have HU2 := Lib.hid (HU.out.step u2 (fun i hi e => absurd (show i = f from e) (by have := HF.out.2.2; omega))); clear hb2 u2)
        go_ret2
        refine ⟨?_, HU2.out⟩
        have e1 := HV.out
        have e2 := HGG.out
        rw [HG.out] at e1 e2
        rw [HP.out, if_pos rfl] at e1
        simp only [pall, if_pos hz] at e1
        rw [← e1, ← e2]
        rfl
      · obtain rfl : h = 0 := by omega
        have c2 : wr.cell? ⟨f, 2, none⟩ = some (.int .i64 (p : Int)) := cell_of HC.out 2
        have HA := Lib.hid (fend_zero f _ _ wr HC.out rfl)
        go_wp2_with (go_at_call 16; refine HA.out.mono ?_; rintro e w2 ⟨rfl, rfl⟩)
        go_ret2
        refine ⟨?_, HU.out⟩
        have e1 := HV.out
        have e2 := HGG.out
        rw [HG.out] at e1 e2
        rw [HP.out, if_pos rfl] at e1
        rw [← e1, ← e2]
        rfl
end Go.Proofs.Ytpbfealmhonbnaa
