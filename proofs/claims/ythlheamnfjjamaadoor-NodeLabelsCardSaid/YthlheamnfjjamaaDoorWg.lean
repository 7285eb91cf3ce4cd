/- Labels: put. -/
import Derived.Test.YthlheamnfjjamaaDoorWf
import Derived.Laws.Concat
import Derived.Lib.ConvBytes
import Derived.Deep.RegionHeld
namespace Go.Proofs.YthlheamnfjjamaaDoor
open Go.RowKit Cm
attribute [local irreducible] beZ valN Cm.shs Cm.nxt Cm.reg Cm.ext
attribute [local go_sem ↓] Go.wp_at_zero Go.wp_at_succ
set_option linter.unusedVariables false

theorem keepL {w w1 : World} {a b c d : Value} {O : Obj} (HC : ∀ w1, Upd noBlock (w.alloc O) w1 → w1.cell? ⟨w.heap.size, 0, none⟩ = some a ∧ w1.cell? ⟨w.heap.size, 1, none⟩ = some b ∧ w1.cell? ⟨w.heap.size, 2, none⟩ = some c ∧ w1.cell? ⟨w.heap.size, 3, none⟩ = some d) (h : Upd noBlock (w.alloc O) w1) :
    w1.cell? ⟨w.heap.size, 0, none⟩ = some a ∧ w1.cell? ⟨w.heap.size, 1, none⟩ = some b ∧ w1.cell? ⟨w.heap.size, 2, none⟩ = some c ∧ w1.cell? ⟨w.heap.size, 3, none⟩ = some d ∧ Hid (Upd noBlock (w.alloc O) w1) :=
  let ⟨h0, h1, h2, h3⟩ := HC w1 h
  ⟨h0, h1, h2, h3, h⟩
set_option maxRecDepth 20000 in
set_option maxHeartbeats 3200000 in
theorem putLabel_good (k : Nat) (g n t : Int) (w : World) (hk : k < 256) (hg : goodLab k g n t = true) (hT : Tab w) :
    Calls Tryd.prog 24 #[.agg #[.int .u8 (k : Int), .int .i64 g, .int .i64 n, .int .i64 t]] w fun e w' => e = .returned (.tuple #[.string ⟨(sealed (rawLab k g n t)).toArray⟩, .bool true]) ∧ Upd noBlock w w' := by
  have HV := fun W => validLab_any k g n t W hk
  rw [hg] at HV
  replace HV := Lib.hid HV
  have hlen : (rawLab k g n t).length = 25 := by unfold rawLab; simp only [List.length_append, List.length_singleton, beZ_length]
  have HSL : ∀ W, Tab W → _ := fun W hW => seal_any ⟨(rawLab k g n t).toArray⟩ W (by show (rawLab k g n t).length ≤ _; rw [hlen]; decide) hW
  have HJ8 := Lib.hid (JoinH3 8 (by omega) 8 rfl g n t)
  have e1 : _ = (⟨(rawLab k g n t).toArray⟩ : ByteArray) := cat_bytes [UInt8.ofNat k] (beZ 8 g ++ (beZ 8 n ++ beZ 8 t))
  have z8 : (⟨(beZ 8 g ++ (beZ 8 n ++ beZ 8 t)).toArray⟩ : ByteArray).size = 24 := by show (beZ 8 g ++ (beZ 8 n ++ beZ 8 t)).length = 24; rw [List.length_append, List.length_append, beZ_length, beZ_length, beZ_length]
  have z1 : (⟨[UInt8.ofNat k].toArray⟩ : ByteArray).size = 1 := rfl
  have hb2 : ((UInt8.ofNat k).toNat : Int) = (k : Int) := by rw [u8_ofNat']; omega
  generalize UInt8.ofNat k = y at *
  have hcell : ∀ (b : Nat) (W : World), W.heap[b]? = some (.cells #[.int .u8 (k : Int)] 5 (0, 0)) → (convert 59 9 (.slice (some ⟨b, 0, none⟩) 1 1)).run Tryd.prog W = .ok (.string ⟨[y].toArray⟩) W := fun b W hc =>
    run_convert_bytes_back W 59 9 5 ⟨b, 0, none⟩ 1 [y] Tryd.underlying59 Tryd.underlying5 Tryd.underlying9 (fun j hj => by
      have : j = 0 := by simpa using hj
      subst this
      rw [add_zero_addr, cell_of hc]
      simp only [List.getElem_cons_zero, hb2]; rfl)
  have HCELL := Lib.hid hcell
  clear hcell hb2
  obtain ⟨p8, hp8⟩ : ∃ q : ByteArray, ⟨(beZ 8 g ++ (beZ 8 n ++ beZ 8 t)).toArray⟩ = q := ⟨_, rfl⟩
  obtain ⟨p1, hp1⟩ : ∃ q : ByteArray, ⟨[y].toArray⟩ = q := ⟨_, rfl⟩
  obtain ⟨qr, hqr⟩ : ∃ q : ByteArray, ⟨(rawLab k g n t).toArray⟩ = q := ⟨_, rfl⟩
  obtain ⟨qs, hqs⟩ : ∃ q : ByteArray, ⟨(sealed (rawLab k g n t)).toArray⟩ = q := ⟨_, rfl⟩
  have hsl' : ∀ W, Tab W → Calls Tryd.prog 40 #[.string qr] W fun e w' => e = .returned (.string qs) ∧ Upd noBlock W w' := fun W hW => by
    rw [← hqr, ← hqs]
    exact HSL W hW
  rw [hp8, hp1, hqr] at e1
  rw [hp8] at z8 HJ8
  rw [hp1] at z1 HCELL
  rw [hqs]
  have HSL2 := Lib.hid hsl'
  have HT : Hid (∀ W, Upd noBlock w W → Tab W) := fun W h => hT.upd h
  clear HSL hsl' hqr hqs hp8 hp1 hlen hg hT
  have hcv0 : ∀ W : World, (convert 59 9 (.slice (some ⟨W.heap.size, 0, none⟩) 1 1)).run Tryd.prog (W.alloc (.cells #[.int .u8 (k : Int)] 5)) = .ok (.string p1) (W.alloc (.cells #[.int .u8 (k : Int)] 5)) := fun W => HCELL.out _ _ (heap_alloc_new W _)
  have hcv1 : ∀ W : World, (convert 59 9 (.slice (some ⟨W.heap.size, 0, none⟩) 1 1)).run Tryd.prog (W.alloc (.cells #[.int .u8 (k : Int)] 5)).drew = .ok (.string p1) (W.alloc (.cells #[.int .u8 (k : Int)] 5)).drew := fun W => HCELL.out _ _ (heap_alloc_new W _)
  have hcv2 : ∀ W : World, (convert 59 9 (.slice (some ⟨W.heap.size, 0, none⟩) 1 1)).run Tryd.prog (W.drew.alloc (.cells #[.int .u8 (k : Int)] 5)) = .ok (.string p1) (W.drew.alloc (.cells #[.int .u8 (k : Int)] 5)) := fun W => HCELL.out _ _ (heap_alloc_new W.drew _)
  have hcv3 : ∀ W : World, (convert 59 9 (.slice (some ⟨W.heap.size, 0, none⟩) 1 1)).run Tryd.prog ((W.alloc (.cells #[.int .u8 (k : Int)] 5)).alloc (.cells #[.int .i64 g, .int .i64 n, .int .i64 t] 3)) = .ok (.string p1) ((W.alloc (.cells #[.int .u8 (k : Int)] 5)).alloc (.cells #[.int .i64 g, .int .i64 n, .int .i64 t] 3)) := fun W => HCELL.out _ _ (block_alloc (heap_alloc_new W _) _)
  have hcv4 : ∀ W : World, (convert 59 9 (.slice (some ⟨W.heap.size, 0, none⟩) 1 1)).run Tryd.prog ((W.alloc (.cells #[.int .u8 (k : Int)] 5)).alloc (.cells #[.int .i64 g, .int .i64 n, .int .i64 t] 3)).drew = .ok (.string p1) ((W.alloc (.cells #[.int .u8 (k : Int)] 5)).alloc (.cells #[.int .i64 g, .int .i64 n, .int .i64 t] 3)).drew := fun W => HCELL.out _ _ (block_alloc (heap_alloc_new W _) _)
  have hcv5 : ∀ W : World, (convert 59 9 (.slice (some ⟨W.heap.size, 0, none⟩) 1 1)).run Tryd.prog ((W.drew.alloc (.cells #[.int .u8 (k : Int)] 5)).alloc (.cells #[.int .i64 g, .int .i64 n, .int .i64 t] 3)) = .ok (.string p1) ((W.drew.alloc (.cells #[.int .u8 (k : Int)] 5)).alloc (.cells #[.int .i64 g, .int .i64 n, .int .i64 t] 3)) := fun W => HCELL.out _ _ (block_alloc (heap_alloc_new W.drew _) _)
  have hcv6 : ∀ W : World, (convert 59 9 (.slice (some ⟨W.heap.size + 1, 0, none⟩) 1 1)).run Tryd.prog ((W.alloc (.cells #[.int .i64 g, .int .i64 n, .int .i64 t] 3)).alloc (.cells #[.int .u8 (k : Int)] 5)) = .ok (.string p1) ((W.alloc (.cells #[.int .i64 g, .int .i64 n, .int .i64 t] 3)).alloc (.cells #[.int .u8 (k : Int)] 5)) := fun W => HCELL.out _ _ (heap_alloc2_new W _ _)
  have hcv7 : ∀ W : World, (convert 59 9 (.slice (some ⟨W.heap.size + 1, 0, none⟩) 1 1)).run Tryd.prog ((W.alloc (.cells #[.int .i64 g, .int .i64 n, .int .i64 t] 3)).alloc (.cells #[.int .u8 (k : Int)] 5)).drew = .ok (.string p1) ((W.alloc (.cells #[.int .i64 g, .int .i64 n, .int .i64 t] 3)).alloc (.cells #[.int .u8 (k : Int)] 5)).drew := fun W => HCELL.out _ _ (heap_alloc2_new W _ _)
  have hcv8 : ∀ W : World, (convert 59 9 (.slice (some ⟨W.heap.size + 1, 0, none⟩) 1 1)).run Tryd.prog ((W.drew.alloc (.cells #[.int .i64 g, .int .i64 n, .int .i64 t] 3)).alloc (.cells #[.int .u8 (k : Int)] 5)) = .ok (.string p1) ((W.drew.alloc (.cells #[.int .i64 g, .int .i64 n, .int .i64 t] 3)).alloc (.cells #[.int .u8 (k : Int)] 5)) := fun W => HCELL.out _ _ (heap_alloc2_new W.drew _ _)
  have HB : Hid (Upd noBlock w (w.alloc (.cells #[.int .u8 (k : Int), .int .i64 g, .int .i64 n, .int .i64 t] 54))) := (Upd.refl _ _).alloc _
  have HC := Lib.hid (fun W h => box4 w W (.int .u8 (k : Int)) (.int .i64 g) (.int .i64 n) (.int .i64 t) 54 h)
  go_enter Tryd.func24, Tryd.ntmps24
  go_upto_region 3 with (go_at_call 49; (with_reducible refine (HV.out _).mono ?_); rintro e w1 ⟨rfl, h⟩; have HW := Lib.hid h; obtain ⟨c0, c1, c2, c3⟩ := HC.out _ h; have ca0 := fun O => (HC.out _ (HW.out.alloc O)).1; have ca1 := fun O => (HC.out _ (HW.out.alloc O)).2.1; have ca2 := fun O => (HC.out _ (HW.out.alloc O)).2.2.1; have ca3 := fun O => (HC.out _ (HW.out.alloc O)).2.2.2; clear h)
  go_region_held (fun w' => w'.cell? ⟨w.heap.size, 0, none⟩ = some (.int .u8 (k : Int)) ∧ w'.cell? ⟨w.heap.size, 1, none⟩ = some (.int .i64 g) ∧ w'.cell? ⟨w.heap.size, 2, none⟩ = some (.int .i64 n) ∧ w'.cell? ⟨w.heap.size, 3, none⟩ = some (.int .i64 t) ∧ Hid (Upd noBlock (w.alloc (.cells #[.int .u8 (k : Int), .int .i64 g, .int .i64 n, .int .i64 t] 54)) w'))
    (first | exact keepL HC.out HW.out | exact keepL HC.out HW.out.drew | exact keepL HC.out HW9.out | exact keepL HC.out (HW.out.alloc _) | exact keepL HC.out (HW.out.drew.alloc _) | exact keepL HC.out (HW.out.alloc _).drew | exact keepL HC.out ((HW.out.alloc _).alloc _) | exact keepL HC.out ((HW.out.drew.alloc _).alloc _) | exact keepL HC.out (HW9.out.alloc _) | assumption | go_keep)
    (first
      | (go_at_call 38; (with_reducible show Calls _ _ #[.int .i64 8, _] _ _); refine (HJ8.out _ _ ?_).mono ?_; (focus (first | exact slh_new2 #[.int .i64 g, .int .i64 n, .int .i64 t] _ _ _ _ (Upd.refl _ _) | exact slh_new #[.int .i64 g, .int .i64 n, .int .i64 t] _ _ _ (Upd.refl _ _) | exact slh_old #[.int .i64 g, .int .i64 n, .int .i64 t] _ _ _ _ (Upd.refl _ _) | exact slh_new2 #[.int .i64 g, .int .i64 n, .int .i64 t] _ _ _ _ ((Upd.refl _ _).drew) | exact slh_new #[.int .i64 g, .int .i64 n, .int .i64 t] _ _ _ ((Upd.refl _ _).drew) | exact slh_old #[.int .i64 g, .int .i64 n, .int .i64 t] _ _ _ _ ((Upd.refl _ _).drew))); rintro e w4 ⟨rfl, h⟩; have h0 := h; (first | replace h := Upd.undrew h | skip); go_split_ands; (first | have HW9 : Hid (Upd noBlock (w.alloc (.cells #[.int .u8 (k : Int), .int .i64 g, .int .i64 n, .int .i64 t] 54)) w4) := Upd.trans (Hid.out (by assumption)) h0 | have HW9 : Hid (Upd noBlock (w.alloc (.cells #[.int .u8 (k : Int), .int .i64 g, .int .i64 n, .int .i64 t] 54)) w4) := Upd.trans (Hid.out (by assumption)) h); (first | have kb := slh_new2 #[.int .u8 (k : Int)] _ _ _ _ h | have kb := slh_new #[.int .u8 (k : Int)] _ _ _ h | have kb := slh_old #[.int .u8 (k : Int)] _ _ _ _ h | skip); (first | have cv := HCELL.out _ _ kb | skip); clear h h0)
      | (go_at_call 40; go_split_ands; (with_reducible refine (HSL2.out _ (HT.out _ (HB.out.trans (Hid.out (by assumption))))).mono ?_); rintro e w7 ⟨rfl, h⟩; have HW9 : Hid (Upd noBlock (w.alloc (.cells #[.int .u8 (k : Int), .int .i64 g, .int .i64 n, .int .i64 t] 54)) w7) := Upd.trans (Hid.out (by assumption)) h; clear h))
  all_goals
    go_wp2_with fail
    go_ret2
    exact ⟨rfl, HB.out.trans (Hid.out (by assumption))⟩
theorem putLabel_any (k : Nat) (g n t : Int) (w : World) (hk : k < 256) (hT : Tab w) :
    Calls Tryd.prog 24 #[.agg #[.int .u8 (k : Int), .int .i64 g, .int .i64 n, .int .i64 t]] w fun e w' => e = .returned (.tuple #[.string ⟨(encLab k g n t).toArray⟩, .bool (goodLab k g n t)]) ∧ Upd noBlock w w' := by
  unfold encLab
  cases hg : goodLab k g n t with
  | true => rw [if_pos rfl]; exact putLabel_good k g n t w hk hg hT
  | false => rw [if_neg (by decide)]; exact putLabel_bad k g n t w hk hg
end Go.Proofs.YthlheamnfjjamaaDoor
