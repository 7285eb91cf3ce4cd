/- literals. -/
import Derived.Test.YtcfilepilgjlaaaDoorZm
import Derived.IntWalk
import Derived.Laws.DeepStrings4
namespace Go.Proofs.YtcfilepilgjlaaaDoor
open Go.RowKit

def doneOf (g : Nat) (w : World) : Nat := match w.cell? ⟨g, 2, none⟩ with | some (.int _ z) => z.toNat | _ => 0
theorem Pin.done {w : World} {B g mb : Nat} {q : ByteArray} {T : List UInt8} {d n : Nat} {f : Fn3} (h : Pin w B g mb q T d n f) : doneOf g w = d := by
  obtain ⟨v, h1, _⟩ := h.row
  have c2 : w.cell? ⟨g, 2, none⟩ = some (.int .i64 (d : Int)) := cell_of h1 2
  unfold doneOf; rw [c2]; rfl
theorem sl_str (l : List UInt8) (a b : Nat) (h1 : a ≤ b) (h2 : b ≤ l.length) (w : World) : (Instr.slice 9 (.string ⟨l.toArray⟩) (some (.int .i64 (a : Int))) (some (.int .i64 (b : Int))) none).run Tryd.prog w = .ok (.string ⟨((l.drop a).take (b - a)).toArray⟩) w := by
  rw [run_slice_string_if w 9 _ _ _ _ _ Tryd.underlying9, if_pos ⟨by omega, by show (b : Int) ≤ ((l.length : Nat) : Int); omega⟩, if_pos ⟨by omega, by omega⟩]
  have e : (ByteArray.mk l.toArray).extract (a : Int).toNat (b : Int).toNat = ⟨((l.drop a).take (b - a)).toArray⟩ := by
    apply ByteArray.ext; apply Array.ext'; simp
  rw [e]
theorem litT_fuel (l : List UInt8) : ∀ (f f' : Nat) (T : List UInt8) (d e : Nat), e - d ≤ f → e - d ≤ f' → litT l f T d e = litT l f' T d e
  | 0, 0, _, _, _, _, _ => rfl
  | 0, f' + 1, T, d, e, h, _ => by rw [litT, litT, if_neg (by omega)]
  | f + 1, 0, T, d, e, _, h => by rw [litT, litT, if_neg (by omega)]
  | f + 1, f' + 1, T, d, e, h, h' => by
    rw [litT, litT]
    by_cases hd : d < e
    · rw [if_pos hd, if_pos hd]
      exact litT_fuel l f f' _ _ _ (by omega) (by omega)
    · rw [if_neg hd, if_neg hd]
theorem litT_step (l : List UInt8) (F : Nat) (T : List UInt8) (d e : Nat) (hd : d < e) (hF : e ≤ F) : litT l F T d e = litT l F (T ++ [UInt8.ofNat (min (e - d) 128 - 1)] ++ (l.drop d).take (min (e - d) 128)) (d + min (e - d) 128) e := by
  have h1 : litT l F T d e = litT l (F + 1) T d e := litT_fuel l _ _ _ _ _ (by omega) (by omega)
  rw [h1, litT, if_pos hd]
  simp [List.append_assoc]

set_option maxRecDepth 20000 in
set_option maxHeartbeats 3200000 in
theorem literals_any (l : List UInt8) (q : ByteArray) (hq : q = ⟨l.toArray⟩) (B g mb : Nat) (T : List UInt8) (d n : Nat) (f : Fn3) (e : Nat) (w : World) (h : Pin w B g mb q T d n f) (hl : l.length ≤ 65536) (he : e ≤ l.length) (hd : d ≤ e) (hT : T.length ≤ 2 * d) :
    Calls Tryd.prog 44 #[.pointer (some ⟨g, 0, none⟩), .int .i64 (e : Int)] w fun r w' => r = .returned (.tuple #[]) ∧ Pin w' B g mb q (litT l e T d e) e n f ∧ (litT l e T d e).length ≤ 2 * e ∧ Step B w w' := by
  obtain ⟨i0, hi0, hz0, hz1, hz2⟩ := info_parts byteInfoB
  obtain ⟨R, hR⟩ : ∃ R, litT l e T d e = R := ⟨_, rfl⟩
  rw [hR]
  have HR := Lib.hid hR
  have H := Lib.hid h
  have hsz : q.size = l.length := by rw [hq]; rfl
  have HQ := Lib.hid hq
  have HST : Hid (Step B w w) := Step.refl _ _
  clear hR h hq
  go_enter Tryd.func44, Tryd.ntmps44
  go_wp2_with fail
  go_loopw [4] (fun _ wr => ∃ (d' : Nat) (T' : List UInt8), Hid (Pin wr B g mb q T' d' n f) ∧ d' ≤ e ∧ Hid (T'.length ≤ 2 * d') ∧ Hid (litT l e T' d' e = R) ∧ Hid (Step B w wr)) (fun _ wr => e - doneOf g wr)
  case atStart => exact ⟨d, T, H, hd, hT, HR, HST⟩
  case round =>
    clear H hd hT HR HST
    obtain ⟨d', T', HP, hd, HTl, HR, HS⟩ := hrel
    obtain ⟨v, h1, h2⟩ := HP.out.row
    have c2 : wr.cell? ⟨g, 2, none⟩ = some (.int .i64 (d' : Int)) := cell_of h1 2
    by_cases hlt : d' < e
    · obtain ⟨m, hm⟩ : ∃ m, min (e - d') 128 = m := ⟨_, rfl⟩
      have hm1 : 1 ≤ m := by omega
      have hm2 : m ≤ 128 := by omega
      have hm3 : d' + m ≤ e := by omega
      have hmin : min ((e : Int) - (d' : Int)) 128 = (m : Int) := by omega
      have c1 : wr.cell? ⟨g, 1, none⟩ = some v := cell_of h1 1
      have hgl := lt_of_block h1
      have htl := HTl.out
      have HR2 : Hid (litT l e (T' ++ [UInt8.ofNat (m - 1)] ++ (l.drop d').take m) (d' + m) e = R) := by
        show _ = _
        have := litT_step l e T' d' e hlt (Nat.le_refl _)
        rw [hm] at this
        rw [← this]; exact HR.out
      have hbm : ((UInt8.ofNat (m - 1)).toNat : Int) = (m : Int) - 1 := by rw [u8_ofNat]; omega
      have HV : Hid (∀ C : Array Value, (wr.alloc (.cells C 5)).ownsRow B 5 1 v T'.length (bc T')) := fun C => h2.grow ((Upd.refl _ _).alloc _)
      have HSr : Hid (Src Tryd.prog 1 37 (.slice (some ⟨wr.heap.size, 0, none⟩) 1 1) 1 (bc [UInt8.ofNat (m - 1)]) (wr.alloc (.cells #[.int .u8 ((m : Int) - 1)] 5))) := by
        have e3 : bc [UInt8.ofNat (m - 1)] = [.int .u8 ((m : Int) - 1)] := by
          show [Value.int .u8 ((UInt8.ofNat (m - 1)).toNat : Int)] = _
          rw [hbm]
        have hb3 := bc_one [UInt8.ofNat (m - 1)]
        rw [e3] at hb3
        show Src _ _ _ _ _ _ _
        rw [e3]
        exact Src.ofSlice _ Tryd.underlying37 _ 1 1 _ rfl (cell_one_new wr _ _) hb3
      have HJ : Hid (∀ v' w1, w1.ownsRow B 5 1 v' (T'.length + 1) (bc T' ++ bc [UInt8.ofNat (m - 1)]) → OwnB w1 B v' (T' ++ [UInt8.ofNat (m - 1)])) := fun v' w1 hx => OwnB.join rfl rfl hx
      have HSL : Hid (∀ v' w1, OwnB w1 B v' (T' ++ [UInt8.ofNat (m - 1)]) → ∃ a k, v' = .slice a (T'.length + 1) k) := fun v' w1 hx => by
        have := hx.slice
        rwa [List.length_append] at this
      have HMX : Hid (T'.length + 1 ≤ maxLen ∧ (T'.length + 1) * 1 ≤ 140737488355328) := by show _ ∧ _; unfold maxLen; omega
      have HBz : Hid (∀ C : Array Value, B ≤ (wr.alloc (.cells C 5)).heap.size) := fun C => by rw [World.size_alloc]; exact Nat.le_trans HP.out.top (Nat.le_succ _)
      have HTK : Hid (∀ C v' w1, OwnB w1 B v' (T' ++ [UInt8.ofNat (m - 1)]) → (wr.alloc (.cells C 5)).grownBy w1 v.ownBlock → (w1.heap[g]? = some (.cells #[.string q, v, .int .i64 (d' : Int), .map (some mb)] 86 (0, 0)) ∧
          Pin (w1.setCell ⟨g, 1, none⟩ v') B g mb q (T' ++ [UInt8.ofNat (m - 1)]) d' n f ∧ Step B wr (w1.setCell ⟨g, 1, none⟩ v') ∧
          (w1.setCell ⟨g, 1, none⟩ v').heap[g]? = some (.cells #[.string q, v', .int .i64 (d' : Int), .map (some mb)] 86 (0, 0)) ∧ OwnB (w1.setCell ⟨g, 1, none⟩ v') B v' (T' ++ [UInt8.ofNat (m - 1)]))) := fun C v' w1 hO hg => by
        have hu : Upd noBlock wr (wr.alloc (.cells C 5)) := (Upd.refl _ _).alloc _
        obtain ⟨a1, a2, a3, a4, a5, a6, a7⟩ := (HP.out.upd hu).tokens (d' := d' + m) (hu.cells h1 (fun h => h)) (h2.grow hu) hg hO
        exact ⟨a1, a3, (Step.of_upd hu).trans a5, a6, a7⟩
      have hne : ¬ g = wr.heap.size := by show ¬ g = _; omega
      have hne' : ¬ wr.heap.size = g := fun e => hne e.symm
      have HSEG : Hid (((l.drop d').take m).length = m) := by show _ = _; rw [List.length_take, List.length_drop]; omega
      have hdm : d' + m - d' = m := by omega
      have hsl := fun w => sl_str l d' (d' + m) (by omega) (by omega) w
      rw [hdm, ← HQ.out] at hsl
      obtain ⟨sg, hsg⟩ : ∃ sg : ByteArray, ⟨((l.drop d').take m).toArray⟩ = sg := ⟨_, rfl⟩
      simp only [hsg, Int.natCast_add] at hsl
      have HSS : Hid (∀ W, Src Tryd.prog 1 9 (.string sg) m (bc ((l.drop d').take m)) W) := fun W => by
        have := Src.ofString W (P := Tryd.prog) (tx := 9) Tryd.underlying9 sg
        rw [← hsg, bc_cells, sz_str, HSEG.out] at this
        rw [← hsg]; exact this
      have HTl2 : Hid ((T' ++ [UInt8.ofNat (m - 1)] ++ (l.drop d').take m).length ≤ 2 * (d' + m)) := by
        show _ ≤ _
        rw [List.length_append, List.length_append, HSEG.out]
        simp only [List.length_singleton]; omega
      have HD0 : Hid (doneOf g wr = d') := HP.out.done
      clear hm hsg hdm HR hbm h1 h2
      generalize (l.drop d').take m = SG at *
      generalize hT1 : T' ++ [UInt8.ofNat (m - 1)] = T1 at *
      have HT1 : Hid (T1.length = T'.length + 1) := by show _ = _; rw [← hT1]; simp
      generalize bc [UInt8.ofNat (m - 1)] = bcm at *
      clear hT1
      go_wp2_with (at_builtin; refine wpList_append_src _ rfl (.tmp 22) (.tmp 26) 37 37 rfl B 5 i0 (.int .u8 0) 1 Tryd.underlying37 hi0 hz0 hz1 hz2 rfl _ _ _ rfl (HV.out _) _ 1 _ rfl HSr.out (by omega) HMX.out.1 HMX.out.2 (HBz.out _) ?_; intro v1 w1 hO hgr _; obtain ⟨a1, k1, hv1⟩ := HSL.out _ _ (HJ.out _ _ hO); subst hv1; obtain ⟨hb1, hb2, hb3, hb4, hb5⟩ := HTK.out _ _ _ (HJ.out _ _ hO) hgr; have HB2 := Lib.hid hb2; have HB3 := Lib.hid hb3; have HB4 := Lib.hid hb4; have HB5 := Lib.hid hb5; clear hb2 hb3 hb4 hb5 hO hgr; have cc1 := cell_of hb1 1; have ff1 := free_of hb1 1; clear hb1)
      clear cc1 ff1 c1 c2
      generalize hWW : w1.setCell ⟨g, 1, none⟩ (.slice a1 (T'.length + 1) k1) = WW at *
      clear hWW HV HSr HJ HSL HMX HBz HTK hne hne'
      have d0 : WW.cell? ⟨g, 0, none⟩ = some (.string q) := cell_of HB4.out 0
      have d1 : WW.cell? ⟨g, 1, none⟩ = some (.slice a1 (T'.length + 1) k1) := cell_of HB4.out 1
      have d2 : WW.cell? ⟨g, 2, none⟩ = some (.int .i64 (d' : Int)) := cell_of HB4.out 2
      have HV2 : Hid (WW.drew.ownsRow B 5 1 (.slice a1 (T'.length + 1) k1) (T'.length + 1) (bc T1)) := by
        have := HB5.out
        unfold OwnB at this
        rw [HT1.out] at this
        exact this
      have HMX2 : Hid (T'.length + 1 + m ≤ maxLen ∧ (T'.length + 1 + m) * 1 ≤ 140737488355328) := by show _ ∧ _; unfold maxLen; omega
      have HBz2 : Hid (B ≤ WW.drew.heap.size) := HB2.out.top
      have HJ2 : Hid (∀ v' w2, w2.ownsRow B 5 1 v' (T'.length + 1 + m) (bc T1 ++ bc SG) → OwnB w2 B v' (T1 ++ SG)) := fun v' w2 hx => OwnB.join rfl HSEG.out.symm (by rw [HT1.out]; exact hx)
      have HSL2 : Hid (∀ v' w2, OwnB w2 B v' (T1 ++ SG) → ∃ a k, v' = .slice a (T'.length + 1 + m) k) := fun v' w1 hx => by
        have := hx.slice
        rwa [List.length_append, HSEG.out, HT1.out] at this
      have HTK2 : Hid (∀ v' w2, OwnB w2 B v' (T1 ++ SG) → WW.drew.grownBy w2 (Value.slice a1 (T'.length + 1) k1).ownBlock → (w2.heap[g]? = some (.cells #[.string q, .slice a1 (T'.length + 1) k1, .int .i64 (d' : Int), .map (some mb)] 86 (0, 0)) ∧
          Pin ((w2.setCell ⟨g, 1, none⟩ v').setCell ⟨g, 2, none⟩ (.int .i64 ((d' : Int) + (m : Int)))) B g mb q (T1 ++ SG) (d' + m) n f ∧ Step B w ((w2.setCell ⟨g, 1, none⟩ v').setCell ⟨g, 2, none⟩ (.int .i64 ((d' : Int) + (m : Int)))))) := fun v' w2 hO hg => by
        have hu : Upd noBlock WW WW.drew := (Upd.refl _ _).drew
        obtain ⟨a1, a2, a3, a4, a5, a6, a7⟩ := (HB2.out.upd hu).tokens (d' := d' + m) (hu.cells HB4.out (fun h => h)) (HB5.out.grow hu) hg hO
        rw [Int.natCast_add] at a2 a4
        exact ⟨a1, a2, (HS.out.trans HB3.out).trans ((Step.of_upd hu).trans a4)⟩
      have hw9 : IntKind.i64.wrap ((d' : Int) + (m : Int)) = (d' : Int) + (m : Int) := IntWalk.i64_in _ (by omega)
      clear HB2 HB3 HB4 HB5 HS HP
      go_region_law ((refine step_append_src rfl (.tmp 34) (.tmp 49) 37 9 rfl B 5 i0 (.int .u8 0) 1 Tryd.underlying37 hi0 hz0 hz1 hz2 rfl _ (T'.length + 1) (bc T1) rfl HV2.out _ m (bc SG) rfl (HSS.out _) hm1 HMX2.out.1 HMX2.out.2 HBz2.out ?_; intro v2 w2 hO hgr _; obtain ⟨a2, k2, hv2⟩ := HSL2.out _ _ (HJ2.out _ _ hO); subst hv2; obtain ⟨hb1, hb2, hb3⟩ := HTK2.out _ _ (HJ2.out _ _ hO) hgr; have HB2 := Lib.hid hb2; have HB3 := Lib.hid hb3; clear hb2 hb3 hO hgr; have cc1 := cell_of hb1 1; have ff1 := free_of hb1 1; have cc2 := cell_of hb1 2; have ff2 := free_of hb1 2; clear hb1))
      all_goals
        go_wp2_with fail
        go_roundw
        case rel => exact ⟨d' + m, T1 ++ SG, HB2, hm3, HTl2, HR2, HB3⟩
        case measure => rw [HB2.out.done, HD0.out]; omega
    · obtain rfl : d' = e := by omega
      have h9 : R = T' := by
        have := HR.out
        rw [← this, litT_fuel l d' 0 T' d' d' (by omega) (by omega)]; rfl
      go_wp2_with fail
      go_end0
      exact ⟨rfl, by rw [h9]; exact HP.out, by rw [h9]; exact HTl.out, HS.out⟩
end Go.Proofs.YtcfilepilgjlaaaDoor
