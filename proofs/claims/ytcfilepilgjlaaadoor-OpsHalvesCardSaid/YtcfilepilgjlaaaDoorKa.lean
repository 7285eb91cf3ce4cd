/- Numbers as bytes, the highest first: numbers.Join. -/
import Derived.Test.YtcfilepilgjlaaaDoorZa
import Derived.ScopeJumps
import Derived.WalkMore
import Derived.Tactics2
import Derived.StillTactics
namespace Go.Proofs.YtcfilepilgjlaaaDoor
open Go.RowKit

/-- a number in so many bytes, the highest first -/
def beZ : Nat → Int → List UInt8
  | 0, _ => []
  | k + 1, n => UInt8.ofNat (n / 2 ^ (8 * k) % 256).toNat :: beZ k n
theorem beZ_length : ∀ (k : Nat) (n : Int), (beZ k n).length = k
  | 0, _ => rfl
  | k + 1, n => by rw [beZ, List.length_cons, beZ_length k n]
def joinZ (size : Nat) (L : List Int) : List UInt8 := L.flatMap (beZ size)
theorem joinZ_length (size : Nat) : ∀ L : List Int, (joinZ size L).length = size * L.length
  | [] => by simp [joinZ]
  | x :: L => by
    have := joinZ_length size L
    unfold joinZ at this ⊢
    rw [List.flatMap_cons, List.length_append, beZ_length, this, List.length_cons, Nat.mul_add]; omega
theorem joinZ_take (size : Nat) (L : List Int) (i : Nat) (h : i < L.length) : joinZ size (L.take (i + 1)) = joinZ size (L.take i) ++ beZ size (L.getD i 0) := by
  unfold joinZ
  rw [List.take_add_one, List.getElem?_eq_getElem h, List.flatMap_append, List.getD_eq_getElem?_getD, List.getElem?_eq_getElem h]
  simp
theorem u8_ofNat' (n : Nat) : ((UInt8.ofNat n).toNat : Int) = (n : Int) % 256 := by
  have : (UInt8.ofNat n).toNat = n % 256 := UInt8.toNat_ofNat'
  rw [this]; omega
theorem OwnB.low {w : World} {B : Nat} {v : Value} {l : List UInt8} (h : OwnB w B v l) (k : Nat) (hk : v.ownBlock = some k) : B ≤ k := by
  rcases h.2 with ⟨k1, _⟩ | ⟨g0, cap, cur, k1, k2, _⟩
  · rw [k1] at hk; cases hk
  · rw [k1] at hk; cases hk; exact k2
theorem byteZ (n : Int) (k : Nat) : ((UInt8.ofNat (n / 2 ^ (8 * k) % 256).toNat).toNat : Int) = n / 2 ^ (8 * k) % 256 := by
  rw [u8_ofNat']
  omega
def intZ : Value → Int | .int _ q => q | _ => 0

set_option maxRecDepth 20000 in
set_option maxHeartbeats 1600000 in
theorem Join_any (size : Nat) (L : List Int) (B c : Nat) (a : Option Addr) (w : World) (hs : size ≤ 8) (hL : L.length ≤ 1000000) (hI : Ints w B a L.length L) (hB : B ≤ w.heap.size) :
    Calls Tryd.prog 28 #[.int .i64 (size : Int), .slice a L.length c] w fun e w' => e = .returned (.string ⟨(joinZ size L).toArray⟩) ∧ Upd noBlock w w' := by
  obtain ⟨i0, hi0, hz0, hz1, hz2⟩ := info_parts byteInfoB
  have HI := Lib.hid hI
  have HB := Lib.hid hB
  have HT := Lib.hid (fun i (h : i < L.length) => joinZ_take size L i h)
  have HLN := Lib.hid (fun i => joinZ_length size (L.take i))
  clear hI hB
  go_enter Tryd.func28, Tryd.ntmps28
  go_wp2
  go_loopw [5, 11] (fun x i wr => ∃ k : Nat, k ≤ L.length ∧ i = .int .i64 (k : Int) ∧ Hid (OwnB wr w.heap.size x (joinZ size (L.take k))) ∧ Hid (Upd noBlock w wr)) (fun _ i _ => L.length - (intZ i).toNat)
  case atStart => exact ⟨0, Nat.zero_le _, rfl, by show OwnB _ _ _ _; exact OwnB.nil _ _, Upd.refl _ _⟩
  case round =>
    obtain ⟨k, hk, rfl, HO, HU⟩ := hrel
    by_cases h0 : k < L.length
    · obtain ⟨g, off, rfl, hg, hc⟩ := (HI.out.grow HU.out HB.out).cell (by omega)
      have c1 := hc k h0
      have HF := Lib.hid (HT.out k h0)
      generalize L.getD k 0 = n at *
      have HFL := HLN.out (k + 1)
      obtain ⟨F, hF⟩ : ∃ F, joinZ size (L.take (k + 1)) = F := ⟨_, rfl⟩
      have HF' : Hid (joinZ size (L.take k) ++ beZ size n = F) := by rw [← hF]; exact HF.out.symm
      rw [hF] at HFL
      clear HF
      have HF := HF'
      clear HF'
      have hFL : F.length ≤ 9000000 := by
        rw [HFL, List.length_take]
        have : size * min (k + 1) L.length ≤ 8 * 1000000 := Nat.mul_le_mul hs (by omega)
        omega
      clear HFL hc
      go_wp2
      go_loopw [5, 8] (fun x i w2 => ∃ (z : Int) (j : Nat) (T : List UInt8), i = .int .i64 z ∧ z + 1 = (j : Int) ∧ j ≤ size ∧ Hid (OwnB w2 w.heap.size x T) ∧ Hid (T ++ beZ j n = F) ∧ Hid (Upd noBlock w w2)) (fun _ i _ => (intZ i + 1).toNat)
      case atStart => exact ⟨(size : Int) - 1, size, _, by go_num, by omega, Nat.le_refl _, HO, HF, HU⟩
      case round =>
        clear HO HF HU
        obtain ⟨z, j, T, rfl, hz, hj, HO, HF, HU⟩ := hrel
        rcases j with _ | j
        · obtain rfl : z = -1 := by omega
          have hTF : T = F := by have := HF.out; simpa [beZ] using this
          subst hTF
          go_wp2
          go_roundw
          case rel => exact ⟨k + 1, by omega, by go_num, (by rw [hF]; exact HO), HU⟩
          case measure => simp [intZ]; omega
        · obtain rfl : z = (j : Int) := by omega
          obtain ⟨y, hy⟩ : ∃ y, UInt8.ofNat (n / 2 ^ (8 * j) % 256).toNat = y := ⟨_, rfl⟩
          have hy2 := byteZ n j
          rw [hy] at hy2
          have HF2 : Hid ((T ++ [y]) ++ beZ j n = F) := by
            have := HF.out
            rw [beZ, hy] at this
            show _ = _
            rw [List.append_assoc]; exact this
          have hTl : T.length + 1 ≤ 9000000 := by
            have h1 := congrArg List.length HF2.out
            rw [List.length_append, List.length_append] at h1
            simp only [List.length_singleton] at h1
            omega
          obtain ⟨a0, c0, hsl⟩ := HO.out.slice
          subst hsl
          have HSrc : Hid (∀ W : World, Src Tryd.prog 1 37 (.slice (some ⟨W.heap.size, 0, none⟩) 1 1) 1 (bc [y]) (W.alloc (.cells #[.int .u8 (y.toNat : Int)] 5))) := fun W =>
            Src.ofSlice _ Tryd.underlying37 _ 1 1 _ rfl (cell_one_new W _ _) (bc_one _)
          rw [hy2] at HSrc
          have HOA : Hid (∀ C, (wr.alloc (.cells C 5)).ownsRow w.heap.size 5 1 (.slice a0 T.length c0) T.length (bc T)) := fun C => HO.out.grow ((Upd.refl _ _).alloc _)
          have HSA : Hid (∀ C, w.heap.size ≤ (wr.alloc (.cells C 5)).heap.size) := fun C => by have := HU.out.size; rw [World.size_alloc]; omega
          have HM : Hid (T.length + 1 ≤ maxLen ∧ (T.length + 1) * 1 ≤ 140737488355328) := by show _ ∧ _; unfold maxLen; omega
          have HE : Hid (∀ v' W', W'.ownsRow w.heap.size 5 1 v' (T.length + 1) (bc T ++ bc [y]) → OwnB W' w.heap.size v' (T ++ [y])) := fun v' W' h => OwnB.join rfl rfl h
          have HUA : Hid (∀ C (row : Option Nat) (W' : World), (wr.alloc (.cells C 5)).grownBy W' row → (row = (Value.slice a0 T.length c0).ownBlock) → Upd noBlock w W') := fun C row W' hgr hrow => upd_of_grown (HU.out.alloc _) hgr (fun k' hk' => .inr (by
            rw [hrow] at hk'
            exact HO.out.low k' hk'))
          clear HF HO hy HU hz hF
          have hj8 : (8 * (j : Int)).toNat = 8 * j := by omega
          go_wp2_with (first | (at_builtin; refine wpList_append_src _ rfl _ _ 37 37 rfl w.heap.size 5 i0 (.int .u8 0) 1 Tryd.underlying37 hi0 hz0 hz1 hz2 rfl _ _ _ rfl (HOA.out _) _ 1 _ rfl (HSrc.out _) (by omega) HM.out.1 HM.out.2 (HSA.out _) ?_; intro v1 w3 hO hgr _) | go_in)
          have hu1 := Lib.hid (HUA.out _ _ _ hgr rfl)
          have hO1 := Lib.hid (HE.out _ _ hO)
          clear hO hgr
          go_roundw
          case rel => exact ⟨(j : Int) - 1, j, _, by go_num, by omega, by omega, hO1, HF2, hu1⟩
          case measure => simp [intZ]
    · obtain rfl : k = L.length := by omega
      have HTX : Hid (∀ v, OwnB wr w.heap.size v (joinZ size L) → (convert 37 9 v).run Tryd.prog wr = .ok (.string ⟨(joinZ size L).toArray⟩) wr) := fun v h => h.text
      rw [List.take_length] at HO
      have hcv := HTX.out _ HO.out
      obtain ⟨q, hq⟩ : ∃ q : ByteArray, ⟨(joinZ size L).toArray⟩ = q := ⟨_, rfl⟩
      rw [hq] at hcv
      have HQ := Lib.hid hq
      clear hq HTX
      go_wp2_with fail
      go_ret
      exact ⟨by rw [HQ.out]; rfl, HU.out⟩
end Go.Proofs.YtcfilepilgjlaaaDoor
