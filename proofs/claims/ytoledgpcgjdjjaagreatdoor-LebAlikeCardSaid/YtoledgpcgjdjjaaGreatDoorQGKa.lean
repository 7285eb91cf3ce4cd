import Derived.Test.YtoledgpcgjdjjaaGreatDoorQGZa
import Derived.ScopeJumps
import Derived.WalkMore
import Derived.Tactics2
import Derived.StillTactics
/- Numbers as bytes, the highest first: numbers.Join. -/
namespace Go.Proofs.YtoledgpcgjdjjaaGreatDoor
open Go.RowKit

def beZ : Nat → Int → List UInt8
  | 0, _ => []
  | k + 1, n => UInt8.ofNat (n / 2 ^ (8 * k) % 256).toNat :: beZ k n
theorem beZ_length : ∀ (k : Nat) (n : Int), (beZ k n).length = k
  | 0, _ => rfl
  | k + 1, n => by rw [beZ, List.length_cons, beZ_length k n]
def joinZ (size : Nat) (L : List Int) : List UInt8 := L.flatMap (beZ size)
theorem joinZ_length (size : Nat) : ∀ L : List Int, (joinZ size L).length = size * L.length
  | [] => by simp [joinZ]
  | x :: L => by
    have := joinZ_length size L
    unfold joinZ at this ⊢
    rw [List.flatMap_cons, List.length_append, beZ_length, this, List.length_cons, Nat.mul_add]; omega
theorem joinZ_take (size : Nat) (L : List Int) (i : Nat) (h : i < L.length) : joinZ size (L.take (i + 1)) = joinZ size (L.take i) ++ beZ size (L.getD i 0) := by
  unfold joinZ
  rw [List.take_add_one, List.getElem?_eq_getElem h, List.flatMap_append, List.getD_eq_getElem?_getD, List.getElem?_eq_getElem h]
  simp
theorem u8_ofNat' (n : Nat) : ((UInt8.ofNat n).toNat : Int) = (n : Int) % 256 := by
  have : (UInt8.ofNat n).toNat = n % 256 := UInt8.toNat_ofNat'
  rw [this]; omega
theorem OwnB.low {w : World} {B : Nat} {v : Value} {l : List UInt8} (h : OwnB w B v l) (k : Nat) (hk : v.ownBlock = some k) : B ≤ k := by
  rcases h.2 with ⟨k1, _⟩ | ⟨g0, cap, cur, k1, k2, _⟩
  · rw [k1] at hk; cases hk
  · rw [k1] at hk; cases hk; exact k2
theorem byteZ (n : Int) (k : Nat) : ((UInt8.ofNat (n / 2 ^ (8 * k) % 256).toNat).toNat : Int) = n / 2 ^ (8 * k) % 256 := by
  rw [u8_ofNat']
  omega
def intZ : Value → Int | .int _ q => q | _ => 0

set_option maxRecDepth 20000 in
set_option maxHeartbeats 1600000 in
theorem Join_any (size : Nat) (L : List Int) (B c : Nat) (a : Option Addr) (w : World) (hs : size ≤ 8) (hL : L.length ≤ 1000000) (hI : Ints w B a L.length L) (hB : B ≤ w.heap.size) :
    Calls Tryz.prog 118 #[.int .i64 (size : Int), .slice a L.length c] w fun e w' => e = .returned (.string ⟨(joinZ size L).toArray⟩) ∧ Upd noBlock w w' := by
  obtain ⟨i0, hi0, hz0, hz1, hz2⟩ := info_parts byteInfoB
  have HI := Lib.hid hI
  have HB := Lib.hid hB
  have HT := Lib.hid (fun i (h : i < L.length) => joinZ_take size L i h)
  have HLN := Lib.hid (fun i => joinZ_length size (L.take i))
  clear hI hB
  go_enter Tryz.func118, Tryz.ntmps118
  go_wp2
  go_loopw [5, 11] (fun x i wr => ∃ k : Nat, k ≤ L.length ∧ i = .int .i64 (k : Int) ∧ Hid (OwnB wr w.heap.size x (joinZ size (L.take k))) ∧ Hid (Upd noBlock w wr)) (fun _ i _ => L.length - (intZ i).toNat)
  case atStart => exact ⟨0, Nat.zero_le _, rfl, by show OwnB _ _ _ _; exact OwnB.nil _ _, Upd.refl _ _⟩
  case round =>
    obtain ⟨k, hk, rfl, HO, HU⟩ := hrel
    by_cases h0 : k < L.length
    · obtain ⟨g, off, rfl, hg, hc⟩ := (HI.out.grow HU.out HB.out).cell (by omega)
      have c1 := hc k h0
      have HF := Lib.hid (HT.out k h0)
      generalize L.getD k 0 = n at *
      have HFL := HLN.out (k + 1)
      obtain ⟨F, hF⟩ : ∃ F, joinZ size (L.take (k + 1)) = F := ⟨_, rfl⟩
      have HF' : Hid (joinZ size (L.take k) ++ beZ size n = F) := by rw [← hF]; exact HF.out.symm
      rw [hF] at HFL
      clear HF
      have HF := HF'
      clear HF'
      have hFL : F.length ≤ 9000000 := by
        rw [HFL, List.length_take]
        have : size * min (k + 1) L.length ≤ 8 * 1000000 := Nat.mul_le_mul hs (by omega)
        omega
      clear HFL hc
      go_wp2
      go_loopw [5, 8] (fun x i w2 => ∃ (z : Int) (j : Nat) (T : List UInt8), i = .int .i64 z ∧ z + 1 = (j : Int) ∧ j ≤ size ∧ Hid (OwnB w2 w.heap.size x T) ∧ Hid (T ++ beZ j n = F) ∧ Hid (Upd noBlock w w2)) (fun _ i _ => (intZ i + 1).toNat)
      case atStart => exact ⟨(size : Int) - 1, size, _, by go_num, by omega, Nat.le_refl _, HO, HF, HU⟩
      case round =>
        clear HO HF HU
        obtain ⟨z, j, T, rfl, hz, hj, HO, HF, HU⟩ := hrel
        rcases j with _ | j
        · obtain rfl : z = -1 := by omega
          have hTF : T = F := by have := HF.out; simpa [beZ] using this
          subst hTF
          go_wp2
          go_roundw
          case rel => exact ⟨k + 1, by omega, by go_num, (by rw [hF]; exact HO), HU⟩
          case measure => simp [intZ]; omega
        · obtain rfl : z = (j : Int) := by omega
          obtain ⟨y, hy⟩ : ∃ y, UInt8.ofNat (n / 2 ^ (8 * j) % 256).toNat = y := ⟨_, rfl⟩
          have hy2 := byteZ n j
          rw [hy] at hy2
          have HF2 : Hid ((T ++ [y]) ++ beZ j n = F) := by
            have := HF.out
            rw [beZ, hy] at this
            show _ = _
            rw [List.append_assoc]; exact this
          have hTl : T.length + 1 ≤ 9000000 := by
            have h1 := congrArg List.length HF2.out
            rw [List.length_append, List.length_append] at h1
            simp only [List.length_singleton] at h1
            omega
          obtain ⟨a0, c0, hsl⟩ := HO.out.slice
          subst hsl
          have HSrc : Hid (∀ W : World, Src Tryz.prog 1 105 (.slice (some ⟨W.heap.size, 0, none⟩) 1 1) 1 (bc [y]) (W.alloc (.cells #[.int .u8 (y.toNat : Int)] 5))) := fun W =>
            Src.ofSlice _ Tryz.underlying105 _ 1 1 _ rfl (cell_one_new W _ _) (bc_one _)
          rw [hy2] at HSrc
          have HOA : Hid (∀ C, (wr.alloc (.cells C 5)).ownsRow w.heap.size 5 1 (.slice a0 T.length c0) T.length (bc T)) := fun C => HO.out.grow ((Upd.refl _ _).alloc _)
          have HSA : Hid (∀ C, w.heap.size ≤ (wr.alloc (.cells C 5)).heap.size) := fun C => by have := HU.out.size; rw [World.size_alloc]; omega
          have HM : Hid (T.length + 1 ≤ maxLen ∧ (T.length + 1) * 1 ≤ 140737488355328) := by show _ ∧ _; unfold maxLen; omega
          have HE : Hid (∀ v' W', W'.ownsRow w.heap.size 5 1 v' (T.length + 1) (bc T ++ bc [y]) → OwnB W' w.heap.size v' (T ++ [y])) := fun v' W' h => OwnB.join rfl rfl h
          have HUA : Hid (∀ C (row : Option Nat) (W' : World), (wr.alloc (.cells C 5)).grownBy W' row → (row = (Value.slice a0 T.length c0).ownBlock) → Upd noBlock w W') := fun C row W' hgr hrow => upd_of_grown (HU.out.alloc _) hgr (fun k' hk' => .inr (by
            rw [hrow] at hk'
            exact HO.out.low k' hk'))
          clear HF HO hy HU hz hF
          have hj8 : (8 * (j : Int)).toNat = 8 * j := by omega
          go_wp2_with (first | (at_builtin; refine wpList_append_src _ rfl _ _ 105 105 rfl w.heap.size 5 i0 (.int .u8 0) 1 Tryz.underlying105 hi0 hz0 hz1 hz2 rfl _ _ _ rfl (HOA.out _) _ 1 _ rfl (HSrc.out _) (by omega) HM.out.1 HM.out.2 (HSA.out _) ?_; intro v1 w3 hO hgr _) | go_in)
          have hu1 := Lib.hid (HUA.out _ _ _ hgr rfl)
          have hO1 := Lib.hid (HE.out _ _ hO)
          clear hO hgr
          go_roundw
          case rel => exact ⟨(j : Int) - 1, j, _, by go_num, by omega, by omega, hO1, HF2, hu1⟩
          case measure => simp [intZ]
    · obtain rfl : k = L.length := by omega
      have HTX : Hid (∀ v, OwnB wr w.heap.size v (joinZ size L) → (convert 105 9 v).run Tryz.prog wr = .ok (.string ⟨(joinZ size L).toArray⟩) wr) := fun v h => h.text
      rw [List.take_length] at HO
      have hcv := HTX.out _ HO.out
      obtain ⟨q, hq⟩ : ∃ q : ByteArray, ⟨(joinZ size L).toArray⟩ = q := ⟨_, rfl⟩
      rw [hq] at hcv
      have HQ := Lib.hid hq
      clear hq HTX
      go_wp2_with fail
      go_ret
      exact ⟨by rw [HQ.out]; rfl, HU.out⟩
end Go.Proofs.YtoledgpcgjdjjaaGreatDoor

/- numbers.Of, numbers.Valid; calls with one number. -/
namespace Go.Proofs.YtoledgpcgjdjjaaGreatDoor
open Go.RowKit

def valN (l : List UInt8) : Nat := l.foldl (fun a c => 256 * a + c.toNat) 0
def okN (n : Int) : Bool := decide (0 ≤ n) && decide (n ≤ 1099511627776)
theorem okN_iff (n : Int) : okN n = true ↔ 0 ≤ n ∧ n ≤ 1099511627776 := by simp [okN]
set_option maxRecDepth 20000 in
set_option maxHeartbeats 1600000 in
theorem Valid_any (L : List Int) (B c : Nat) (a : Option Addr) (w : World) (hL : L.length ≤ 1000000) (hI : Ints w B a L.length L) :
    Calls Tryz.prog 39 #[.slice a L.length c] w fun e w' => e = .returned (.bool (L.all okN)) ∧ w' = w := by
  have HI := Lib.hid hI
  have HT : Hid (∀ i (h : i < L.length), (L.take (i + 1)).all okN = ((L.take i).all okN && okN (L.getD i 0)) ∧ (okN (L.getD i 0) = false → L.all okN = false)) := fun i h => by
    rw [List.take_add_one, List.getElem?_eq_getElem h, List.getD_eq_getElem?_getD, List.getElem?_eq_getElem h]
    refine ⟨by rw [List.all_append]; simp, fun hx => ?_⟩
    rw [List.all_eq_false]
    exact ⟨L[i], List.getElem_mem h, by simpa using hx⟩
  have HL : Hid ((L.take L.length).all okN = L.all okN) := by show _ = _; rw [List.take_length]
  generalize L.all okN = R at *
  clear hI
  go_enter Tryz.func39, Tryz.ntmps39
  go_wp2
  go_loopw [7] (fun i wr => ∃ k : Nat, k ≤ L.length ∧ i = .int .i64 (k : Int) ∧ Hid ((L.take k).all okN = true) ∧ Hid (wr = w)) (fun i _ => L.length - (intZ i).toNat)
  case atStart => exact ⟨0, Nat.zero_le _, rfl, rfl, rfl⟩
  case round =>
    obtain ⟨k, hk, rfl, HA, HW⟩ := hrel
    by_cases h0 : k < L.length
    · have hw := HW.out
      subst hw
      obtain ⟨g, off, rfl, hg, hc⟩ := HI.out.cell (by omega)
      have c1 := hc k h0
      have HN := Lib.hid (HT.out k h0)
      clear hc
      generalize L.getD k 0 = n at *
      by_cases h1 : n < 0
      · have HR : Hid (R = false) := HN.out.2 (by simp [okN]; omega)
        go_wp2
        go_ret
        exact ⟨by rw [HR.out]; rfl, rfl⟩
      · by_cases h2 : 1099511627776 < n
        · have HR : Hid (R = false) := HN.out.2 (by simp [okN]; omega)
          go_wp2
          go_ret
          exact ⟨by rw [HR.out]; rfl, rfl⟩
        · have HR : Hid ((L.take (k + 1)).all okN = true) := by
            show _ = _
            rw [HN.out.1, HA.out, Bool.true_and]
            exact (okN_iff n).2 ⟨by omega, by omega⟩
          go_wp2
          go_roundw
          case rel => exact ⟨k + 1, by omega, by go_num, HR, by first | exact rfl | exact trivial⟩
          case measure => simp [intZ]; omega
    · obtain rfl : k = L.length := by omega
      have HR : Hid (R = true) := by show R = true; rw [← HL.out]; exact HA.out
      go_wp2
      go_ret
      exact ⟨by rw [HR.out]; rfl, HW.out⟩
theorem ints_cells {w : World} {h : Nat} (L : List Int) (hc : ∀ i, i < L.length → w.cell? ⟨h, i, none⟩ = some (.int .i64 (L.getD i 0))) : Ints w w.heap.size (some ⟨h, 0, none⟩) L.length L :=
  ⟨rfl, fun h0 => ⟨h, 0, rfl, World.block_lt_of_cell? w _ (hc 0 h0), fun i hi => by rw [Nat.zero_add]; exact hc i hi⟩⟩
theorem Valid1 (n : Int) (h : Nat) (w : World) (hc : w.cell? ⟨h, 0, none⟩ = some (.int .i64 n)) :
    Calls Tryz.prog 39 #[.slice (some ⟨h, 0, none⟩) 1 1] w fun e w' => e = .returned (.bool (okN n)) ∧ w' = w := by
  have := Valid_any [n] w.heap.size 1 (some ⟨h, 0, none⟩) w (by simp) (ints_cells [n] (fun i hi => by
    have : i = 0 := by simpa using hi
    subst this; exact hc))
  have e : [n].all okN = okN n := by simp
  rw [e] at this
  exact this
theorem Valid1A (n : Int) (W : World) :
    Calls Tryz.prog 39 #[.slice (some ⟨W.heap.size, 0, none⟩) 1 1] (W.alloc (.cells #[.int .i64 n] 3)) fun e w' => e = .returned (.bool (okN n)) ∧ Upd noBlock W w' := by
  have h1 := heap_alloc_new W (.cells #[.int .i64 n] 3)
  have h2 : (W.alloc (.cells #[.int .i64 n] 3)).cell? ⟨W.heap.size, 0, none⟩ = some (.int .i64 n) := by rw [cell_of h1]; rfl
  exact (Valid1 n W.heap.size _ h2).mono fun e w' hh => ⟨hh.1, by rw [hh.2]; exact (Upd.refl _ _).alloc _⟩
end Go.Proofs.YtoledgpcgjdjjaaGreatDoor
