/- copy. -/
import Derived.Test.YtcfilepilgjlaaaDoorZj
namespace Go.Proofs.YtcfilepilgjlaaaDoor
open Go.RowKit

theorem u8_ofNat (n : Nat) : ((UInt8.ofNat n).toNat : Int) = (n : Int) % 256 := by
  have : (UInt8.ofNat n).toNat = n % 256 := UInt8.toNat_ofNat'
  rw [this]; omega
/-- what is appended to the tokens, and stored -/
theorem Pin.tokens {w w1 : World} {B g mb : Nat} {q : ByteArray} {T T' : List UInt8} {d d' n : Nat} {f : Fn3} {v v' : Value} (h : Pin w B g mb q T d n f) (hr : w.heap[g]? = some (.cells #[.string q, v, .int .i64 (d : Int), .map (some mb)] 86 (0, 0))) (hown : OwnB w B v T)
    (hg : w.grownBy w1 v.ownBlock) (hT : OwnB w1 B v' T') :
    w1.heap[g]? = some (.cells #[.string q, v, .int .i64 (d : Int), .map (some mb)] 86 (0, 0)) ∧
    Pin ((w1.setCell ⟨g, 1, none⟩ v').setCell ⟨g, 2, none⟩ (.int .i64 (d' : Int))) B g mb q T' d' n f ∧ Pin (w1.setCell ⟨g, 1, none⟩ v') B g mb q T' d n f ∧
    Step B w ((w1.setCell ⟨g, 1, none⟩ v').setCell ⟨g, 2, none⟩ (.int .i64 (d' : Int))) ∧ Step B w (w1.setCell ⟨g, 1, none⟩ v') ∧
    (w1.setCell ⟨g, 1, none⟩ v').heap[g]? = some (.cells #[.string q, v', .int .i64 (d : Int), .map (some mb)] 86 (0, 0)) ∧ OwnB (w1.setCell ⟨g, 1, none⟩ v') B v' T' := by
  have hvg : ∀ (W : World) (x : Value) (L : List UInt8), OwnB W B x L → ∀ cs, W.heap[g]? = some (.cells cs 86 (0, 0)) → ∀ k, x.ownBlock = some k → ¬ k = g := fun W x L hx cs hc k hk e => by
    rcases hx.2 with ⟨k1, _⟩ | ⟨k0, cap, cur, k1, _, k2, _⟩
    · rw [k1] at hk; cases hk
    · rw [k1] at hk; cases hk
      have e : k0 = g := e
      rw [e, hc] at k2; cases k2
  have hlt := lt_of_block hr
  have r1 : w1.heap[g]? = some (.cells #[.string q, v, .int .i64 (d : Int), .map (some mb)] 86 (0, 0)) := (hg.block g hlt (fun e => hvg w v T hown _ hr g e.symm rfl)).trans hr
  have hmg : ¬ mb = g := fun e => by
    obtain ⟨D, ⟨es, cl, k1, _⟩, _⟩ := h.map
    rw [e, hr] at k1; cases k1
  have hmv : some mb ≠ v.ownBlock := fun e => by
    rcases hown.2 with ⟨k1, _⟩ | ⟨k0, cap, cur, k1, _, k2, _⟩
    · rw [k1] at e; cases e
    · rw [k1] at e
      have e : mb = k0 := by cases e; rfl
      obtain ⟨D, ⟨es, cl, k3, _⟩, _⟩ := h.map
      rw [e, k2] at k3; cases k3
  have m1 : Mp w1 mb n f := h.map.congr (hg.block mb h.map.lt hmv)
  have u1 : Upd (oneBlock g) w1 (w1.setCell ⟨g, 1, none⟩ v') := (Upd.refl (oneBlock g) w1).setCell (p := ⟨g, 1, none⟩) (.inl rfl) _
  have u2 : Upd (oneBlock g) w1 ((w1.setCell ⟨g, 1, none⟩ v').setCell ⟨g, 2, none⟩ (.int .i64 (d' : Int))) := u1.setCell (p := ⟨g, 2, none⟩) (.inl rfl) _
  have b1 : (w1.setCell ⟨g, 1, none⟩ v').heap[g]? = some (.cells #[.string q, v', .int .i64 (d : Int), .map (some mb)] 86 (0, 0)) := block_set r1 v'
  have b2 : ((w1.setCell ⟨g, 1, none⟩ v').setCell ⟨g, 2, none⟩ (.int .i64 (d' : Int))).heap[g]? = some (.cells #[.string q, v', .int .i64 (d' : Int), .map (some mb)] 86 (0, 0)) := block_set b1 _
  have o1 := hT.upd u1 (hvg w1 v' T' hT _ r1)
  have o2 := hT.upd u2 (hvg w1 v' T' hT _ r1)
  have s0 : ∀ a : World, a.heap.size ≤ B → Upd noBlock a w → Upd noBlock a w1 := fun a ha hu => upd_of_grown hu hg (fun k hk => .inr (by
    have := hown.own k hk; omega))
  have sz1 : B ≤ w1.heap.size := Nat.le_trans h.top hg.size
  refine ⟨r1, ⟨⟨v', b2, o2⟩, m1.upd u2 hmg, h.gB, h.mB, Nat.le_trans sz1 u2.size⟩, ⟨⟨v', b1, o1⟩, m1.upd u1 hmg, h.gB, h.mB, Nat.le_trans sz1 u1.size⟩, fun a ha hu => ?_, fun a ha hu => ?_, b1, o1⟩
  · exact (s0 a ha hu).step u2 (fun i hi e => by have e : i = g := e; have := h.gB; omega)
  · exact (s0 a ha hu).step u1 (fun i hi e => by have e : i = g := e; have := h.gB; omega)

set_option maxRecDepth 20000 in
set_option maxHeartbeats 1600000 in
theorem copy_any (B g mb : Nat) (q : ByteArray) (T : List UInt8) (d n : Nat) (f : Fn3) (bk m : Nat) (w : World) (h : Pin w B g mb q T d n f) (hb : bk ≤ 65535) (hm : m ≤ 130) (hd : d ≤ 65536) (hT : T.length ≤ 1048576) :
    Calls Tryd.prog 45 #[.pointer (some ⟨g, 0, none⟩), .int .i64 ((bk : Int) + 1), .int .i64 (m : Int)] w fun e w' => e = .returned (.tuple #[]) ∧ Pin w' B g mb q (T ++ copyT bk m) (d + m) n f ∧ Step B w w' := by
  obtain ⟨i0, hi0, hz0, hz1, hz2⟩ := info_parts byteInfoB
  obtain ⟨v, h1, h2⟩ := h.row
  have hlt := lt_of_block h1
  have HV : Hid (∀ C : Array Value, (w.alloc (.cells C 5)).ownsRow B 5 1 v T.length (bc T)) := fun C => h2.grow ((Upd.refl _ _).alloc _)
  have e0 := u8_ofNat (m + 125)
  have e1 := u8_ofNat bk
  have e2 := u8_ofNat (bk / 256)
  have HS : Hid (Src Tryd.prog 1 37 (.slice (some ⟨w.heap.size, 0, none⟩) 3 3) 3 (bc (copyT bk m)) (w.alloc (.cells #[.int .u8 ((m : Int) + 125), .int .u8 ((bk : Int) % 256), .int .u8 ((bk : Int) / 256)] 5))) := by
    have e3 : bc (copyT bk m) = [.int .u8 ((m : Int) + 125), .int .u8 ((bk : Int) % 256), .int .u8 ((bk : Int) / 256)] := by
      show [Value.int .u8 ((UInt8.ofNat (m + 125)).toNat : Int), Value.int .u8 ((UInt8.ofNat bk).toNat : Int), Value.int .u8 ((UInt8.ofNat (bk / 256)).toNat : Int)] = _
      rw [e0, e1, e2, show ((m + 125 : Nat) : Int) % 256 = (m : Int) + 125 by omega, show ((bk / 256 : Nat) : Int) % 256 = (bk : Int) / 256 by omega]
    have hb3 := bc_one (copyT bk m)
    rw [e3] at hb3
    show Src _ _ _ _ _ _ _
    rw [e3]
    exact Src.ofSlice _ Tryd.underlying37 _ 3 3 _ rfl (fun j u hj => by
      have hx := heap_alloc_new w (.cells #[.int .u8 ((m : Int) + 125), .int .u8 ((bk : Int) % 256), .int .u8 ((bk : Int) / 256)] 5)
      match j, hj with
      | 0, hj => cases hj; exact cell_of hx 0
      | 1, hj => cases hj; exact cell_of hx 1
      | 2, hj => cases hj; exact cell_of hx 2) hb3
  have c1 : w.cell? ⟨g, 1, none⟩ = some v := cell_of h1 1
  have c2 : w.cell? ⟨g, 2, none⟩ = some (.int .i64 (d : Int)) := cell_of h1 2
  have HP : Hid (∀ C v' w1, OwnB w1 B v' (T ++ copyT bk m) → (w.alloc (.cells C 5)).grownBy w1 v.ownBlock → (w1.heap[g]? = some (.cells #[.string q, v, .int .i64 (d : Int), .map (some mb)] 86 (0, 0)) ∧
    Pin ((w1.setCell ⟨g, 1, none⟩ v').setCell ⟨g, 2, none⟩ (.int .i64 ((d : Int) + (m : Int)))) B g mb q (T ++ copyT bk m) (d + m) n f ∧ Step B w ((w1.setCell ⟨g, 1, none⟩ v').setCell ⟨g, 2, none⟩ (.int .i64 ((d : Int) + (m : Int)))))) := fun C v' w1 hO hg => by
    have hu : Upd noBlock w (w.alloc (.cells C 5)) := (Upd.refl _ _).alloc _
    obtain ⟨a1, a2, a3, a4, a5, a6, a7⟩ := (h.upd hu).tokens (d' := d + m) (hu.cells h1 (fun h => h)) (h2.grow hu) hg hO
    rw [Int.natCast_add] at a2 a4
    exact ⟨a1, a2, (Step.of_upd hu).trans a4⟩
  have HJ : Hid (∀ v' w1, w1.ownsRow B 5 1 v' (T.length + 3) (bc T ++ bc (copyT bk m)) → OwnB w1 B v' (T ++ copyT bk m)) := fun v' w1 hx => OwnB.join rfl rfl hx
  have HSL : Hid (∀ v' w1, OwnB w1 B v' (T ++ copyT bk m) → ∃ a k, v' = .slice a (T.length + 3) k) := fun v' w1 hx => by
    have := hx.slice
    rwa [List.length_append] at this
  have HMX : Hid (T.length + 3 ≤ maxLen ∧ (T.length + 3) * 1 ≤ 140737488355328) := by show _ ∧ _; unfold maxLen; omega
  have HB : Hid (∀ C : Array Value, B ≤ (w.alloc (.cells C 5)).heap.size) := fun C => by rw [World.size_alloc]; exact Nat.le_trans h.top (Nat.le_succ _)
  have hne : ¬ g = w.heap.size := by show ¬ g = _; omega
  have hne' : ¬ w.heap.size = g := fun e => hne e.symm
  clear e0 e1 e2 h h1 h2
  generalize hCT : copyT bk m = CT at *
  clear hCT
  go_enter Tryd.func45, Tryd.ntmps45
  go_wp2_with (first | (at_builtin; refine wpList_append_src _ rfl _ _ 37 37 rfl B 5 i0 (.int .u8 0) 1 Tryd.underlying37 hi0 hz0 hz1 hz2 rfl _ _ _ rfl (HV.out _) _ 3 _ rfl HS.out (by omega) HMX.out.1 HMX.out.2 (HB.out _) ?_; intro v1 w1 hO hgr _; obtain ⟨a1, k1, hv1⟩ := HSL.out _ _ (HJ.out _ _ hO); subst hv1; obtain ⟨hb1, hb2, hb3⟩ := HP.out _ _ _ (HJ.out _ _ hO) hgr; have HB2 := Lib.hid hb2; have HB3 := Lib.hid hb3; clear hb2 hb3 hO hgr; have cc1 := cell_of hb1 1; have cc2 := cell_of hb1 2; have ff1 := free_of hb1 1; have ff2 := free_of hb1 2; clear hb1) | go_in)
  go_end0
  exact ⟨rfl, HB2.out, HB3.out⟩
end Go.Proofs.YtcfilepilgjlaaaDoor
