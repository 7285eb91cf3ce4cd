/- PackBack. -/
import Derived.Test.YthlheamnfjjamaaDoorUg
import Derived.Test.YthlheamnfjjamaaDoorSt
import Derived.Deep.CutRange
namespace Go.Proofs.YthlheamnfjjamaaDoor
open Go.RowKit Cm
attribute [local irreducible] beZ valN Cm.shs Cm.nxt Cm.reg Cm.ext goodN
attribute [local go_sem ↓] Go.wp_at_zero Go.wp_at_succ
set_option linter.unusedVariables false

theorem PK.grown {w w' : World} {B g s p B' m : Nat} {L : List UInt8} {v' : Value} {xs : List Value} (h : PK w B g s L p) (h' : w.ownsRow B' 9 1 v' m xs) (hg : w.grownBy w' v'.ownBlock) : PK w' B g s L p := by
  obtain ⟨h1, h2, h3, h4, h5, v, h6, h7⟩ := h
  refine ⟨h1, Nat.le_trans h2 (upd_of_grown (Upd.refl (fun _ => True) w) hg (fun _ _ => .inl trivial)).size, h3, h4, h5, v, (hg.block g (lt_of_block h6) (fun e1 => ?_)).trans h6, own_other h7 h' (by decide) hg⟩
  obtain ⟨_, C, hC⟩ := own_base h' g e1.symm
  rw [hC] at h6
  cases h6
theorem OwnS.turn {w w' : World} {B B' g : Nat} {v : Value} {xs : List ByteArray} (h : OwnS w B' 9 v xs) (ht : Turn B g w w') : OwnS w' B' 9 v xs := by
  obtain ⟨hl, h⟩ := h
  refine ⟨hl, ?_⟩
  rcases h with ⟨h1, h2⟩ | ⟨k, cap, cur, rfl, hb, hk, r⟩
  · exact .inl ⟨h1, h2⟩
  · exact .inr ⟨k, cap, cur, rfl, hb, ht.far k cur _ _ hk (by decide) (by decide), r⟩
/-- what the first loop keeps -/
structure PJ (w wr : World) (B g s : Nat) (H : ByteArray) (p : Nat) (v : Value) (Ps : List ByteArray) (n : Nat) : Prop where
  pk : PK wr B g s H.data.toList p
  up : Upd noBlock w wr
  hB : w.heap.size ≤ B
  hg : w.heap.size ≤ g
  own : OwnS wr w.heap.size 9 v Ps
  pb : PB s n Ps H
theorem PJ.keep {w wr wq : World} {B g s : Nat} {H : ByteArray} {p : Nat} {v : Value} {Ps : List ByteArray} {n : Nat} (h : PJ w wr B g s H p v Ps n) (hu : Upd noBlock wr wq) : PJ w wq B g s H p v Ps n :=
  ⟨h.pk.upd hu, h.up.trans hu, h.hB, h.hg, h.own.grow hu, h.pb⟩
theorem PJ.turn {w wr wq : World} {B g s : Nat} {H H' : ByteArray} {p p' : Nat} {v : Value} {Ps : List ByteArray} {n n' : Nat} (h : PJ w wr B g s H p v Ps n) (hp : PK wq B g s H'.data.toList p') (ht : Turn B g wr wq) (hb : PB s n' Ps H') : PJ w wq B g s H' p' v Ps n' :=
  ⟨hp, ht.upd h.up h.hB (.inr h.hg), h.hB, h.hg, h.own.turn ht, hb⟩
theorem PJ.paged {w w4 w5 : World} {B g s : Nat} {H q : ByteArray} {p' : Nat} {v v5 : Value} {Ps : List ByteArray} {n' : Nat} {C : Obj} (hpk : PK w4 B g s q.data.toList p') (hup : Upd noBlock w w4) (hB : w.heap.size ≤ B) (hg : w.heap.size ≤ g) (hown : OwnS w4 w.heap.size 9 v Ps) (hb : PB s n' (Ps ++ [H]) q)
    (hgr : (w4.alloc C).grownBy w5 v.ownBlock) (ho : w5.ownsRow w.heap.size 9 1 v5 (Ps.length + 1) (Ps.map Value.string ++ [Value.string H])) : PJ w w5 B g s q p' v5 (Ps ++ [H]) n' :=
  have hA : OwnS (w4.alloc C) w.heap.size 9 v Ps := hown.grow ((Upd.refl noBlock w4).alloc C)
  ⟨(hpk.upd ((Upd.refl noBlock w4).alloc C)).grown hA hgr, upd_of_grown (hup.alloc C) hgr (fun k hk => .inr (own_base hA k hk).1), hB, hg, OwnS.snoc ho, hb⟩
theorem page_fin {w w4 w5 : World} {H : ByteArray} {v v5 : Value} {Ps : List ByteArray} {C : Obj} (hup : Upd noBlock w w4) (hown : OwnS w4 w.heap.size 9 v Ps)
    (hgr : (w4.alloc C).grownBy w5 v.ownBlock) (ho : w5.ownsRow w.heap.size 9 1 v5 (Ps.length + 1) (Ps.map Value.string ++ [Value.string H])) : OwnS w5 w.heap.size 9 v5 (Ps ++ [H]) ∧ Upd noBlock w w5 :=
  have hA : OwnS (w4.alloc C) w.heap.size 9 v Ps := hown.grow ((Upd.refl noBlock w4).alloc C)
  ⟨OwnS.snoc ho, upd_of_grown (hup.alloc C) hgr (fun k hk => .inr (own_base hA k hk).1)⟩
/-- what a page's Unpack answers -/
theorem unpack_page (c : Nat) (F : List (List UInt8)) (hg : goodV c F) (hl : (rowV c F).length ≤ 2048) (q : ByteArray) (hq : q = ⟨(rowV c F).toArray⟩) (W : World) (hW : Tab W) :
    Calls Tryd.prog 28 #[.string q] W fun e w' => ∃ v5 v6, e = .returned (.tuple #[v5, v6, .int .i64 0]) ∧ w'.ownsRow W.heap.size 26 5 v5 F.length (nodesC (nodesV c F)) ∧ Upd noBlock W w' := by
  subst hq
  have h := unpackP_any (rowV c F) W (by omega) hW
  obtain ⟨h1, h2⟩ := unpW_row F c ((rowV c F).length + 1) [] [] [] hg (by have := rowV_len c F; omega)
  rw [List.nil_append, List.nil_append, show (([] : List UInt8).length : Int) = 0 from rfl] at h1
  rw [List.nil_append, show (([] : List UInt8).length : Int) = 0 from rfl] at h2
  refine h.mono ?_
  rintro e w' ⟨v5, v6, rfl, ho, -, hu⟩
  rw [h1, nodesV_length] at ho
  exact ⟨v5, v6, by rw [h2], ho, hu⟩
theorem stringParts : ∃ i0 z, Tryd.prog.info? 9 = some i0 ∧ i0.zero = some z ∧ i0.size = 1 ∧ i0.bytes = 16 ∧ z.cells.size = 1 := by
  have h : (Tryd.prog.info? 9).map (fun i => (i.zero.map (fun z => z.cells.size), i.size, i.bytes)) = some (some 1, 1, 16) := by kernel_rfl
  obtain ⟨i0, h1, h2⟩ := Option.map_eq_some_iff.1 h
  simp only [Prod.mk.injEq, Option.map_eq_some_iff] at h2
  obtain ⟨⟨z, hz, hz5⟩, h3, h4⟩ := h2
  exact ⟨i0, z, h1, hz, h3, h4, hz5⟩
def szB (x : Int) : Nat := if x < 40 ∨ 2048 < x then 64 else x.toNat
theorem strqB (q : ByteArray) : (⟨q.data.toList.toArray⟩ : ByteArray) = q := by apply ByteArray.ext; simp
theorem app_nilB (H : ByteArray) : (⟨#[]⟩ : ByteArray) ++ H = H := by apply ByteArray.ext; simp
set_option maxRecDepth 20000 in
set_option maxHeartbeats 6400000 in
theorem packBack_upd (x : Int) (a : Option Addr) (n c : Nat) (Ss : List ByteArray) (w : World) (hr : Strs w w.heap.size a n Ss) (hn : n ≤ 8796093021952) (h1 : -9223372036854775808 ≤ x) (h2 : x ≤ 9223372036854775807) (hT : Tab w) :
    Calls Tryd.prog 9 #[.int .i64 x, .slice a n c] w fun e w' => e = .returned (.bool true) ∧ Upd noBlock w w' := by
  obtain ⟨i0, z0, hi0, hz0, hz1, hz2, hz3⟩ := stringParts
  have HT : Hid (∀ W, Upd noBlock w W → Tab W) := fun W h => hT.upd h
  have HSP := Lib.hid (fun W => speaksQ W)
  have HS := Lib.hid hr
  have HE : Hid (∀ (m : Nat) (q : ByteArray), q.size ≤ maxLen → ∀ W, Tab W → Calls Tryd.prog 12 #[.agg #[.int .i64 (m : Int), .bool false, .bool false, .string q, .string ⟨#[]⟩]] W fun e w' => e = .returned (.tuple #[.string ⟨(encN (m : Int) false false q.data.toList []).toArray⟩, .bool (goodN (m : Int) false q.data.toList [])]) ∧ Upd noBlock W w') := fun m q hm W hW => by
    have := encodeN_any (m : Int) false false q.data.toList [] W hm (Nat.zero_le _) hW
    rw [strqB] at this
    exact this
  obtain ⟨s, hs⟩ : ∃ s, szB x = s := ⟨_, rfl⟩
  have hs1 : 40 ≤ s ∧ s ≤ 2048 := by rw [← hs]; unfold szB; split <;> omega
  have hsq : szQ (s : Int) = s := by unfold szQ; omega
  have HNW := fun W => packNew (s : Int) W (by omega) (by omega)
  rw [hsq] at HNW
  replace HNW := Lib.hid HNW
  have HSX := Lib.hid hs
  clear hs hsq hr hT
  obtain ⟨tb, htb⟩ : ∃ tb : Bool, decide (x < 40 ∨ 2048 < x) = tb := ⟨_, rfl⟩
  have HTB := Lib.hid htb
  clear htb
  go_enter Tryd.func9, Tryd.ntmps9
  go_upto_region 3 with (go_at_call 27; (with_reducible refine (HSP.out _).mono ?_); rintro e w1 ⟨rfl, h⟩; have HX := Lib.hid h; clear h)
  go_cut [29] from 24 to 29 (fun t wx => t = .bool tb ∧ wx = w1)
  case first =>
    by_cases k1 : x < 40
    · obtain rfl : tb = true := by rw [← HTB.out]; exact decide_eq_true (.inl k1)
      go_wp2_with fail
      go_meet
      exact ⟨rfl, rfl⟩
    · by_cases k2 : 2048 < x
      · obtain rfl : tb = true := by rw [← HTB.out]; exact decide_eq_true (.inr k2)
        go_wp2_with fail
        go_meet
        exact ⟨rfl, rfl⟩
      · obtain rfl : tb = false := by rw [← HTB.out]; exact decide_eq_false (by omega)
        go_wp2_with fail
        go_meet
        exact ⟨rfl, rfl⟩
  case rest =>
  obtain ⟨rfl, hwx⟩ := hcut
  subst hwx
  go_upto_if 29 with fail
  go_cut [0] from 24 to 29 (fun v wx => v = .int .i64 (s : Int) ∧ wx = wc)
  case first =>
    cases tb with
    | true =>
      have e : (64 : Int) = (s : Int) := by
        have h3 := HSX.out
        unfold szB at h3
        rw [if_pos (of_decide_eq_true HTB.out)] at h3
        omega
      go_wp2_with fail
      go_meet
      exact ⟨by rw [e], rfl⟩
    | false =>
      have e : x = (s : Int) := by
        have h3 := HSX.out
        have h4 := of_decide_eq_false HTB.out
        unfold szB at h3
        rw [if_neg h4] at h3
        omega
      go_wp2_with fail
      go_meet
      exact ⟨by rw [e], rfl⟩
  case rest =>
  obtain ⟨rfl, hwx⟩ := hcut
  subst hwx
  clear HTB HSX
  go_wp2_with (go_at_call 30; (with_reducible refine (HNW.out _).mono ?_); rintro e w2 ⟨g, rfl, hg, hb, hu⟩; have HG := Lib.hid hg; have HB := Lib.hid hb; have HU := Lib.hid hu; clear hg hb hu)
  have HJ0 : Hid (PJ w w2 w2.heap.size g s ⟨#[]⟩ 0 (.slice none 0 0) [] 0) :=
    ⟨PK.start HB.out (Upd.refl _ _) (by omega) hs1.2 (lt_of_block HB.out) (Nat.le_refl _), HX.out.trans HU.out, (HX.out.trans HU.out).size, Nat.le_trans HX.out.size HG.out, OwnS.nil _ _ _, PB.start s⟩
  generalize w2.heap.size = B at *
  clear HB HG HU HX HNW HSP
  go_loopw [6, 7, 8] (fun v6 vn vi wr => ∃ (k m p : Nat) (H : ByteArray) (Ps : List ByteArray) (v : Value), k ≤ n ∧ m ≤ k ∧ p ≤ k ∧ Ps.length ≤ k ∧ v = v6 ∧ vn = .int .i64 (m : Int) ∧ vi = .int .i64 (k : Int) ∧ Hid (PJ w wr B g s H p v Ps m)) (fun _ _ i _ => n - (intOf i).toNat)
  case atStart => exact ⟨0, 0, 0, ⟨#[]⟩, [], _, Nat.zero_le _, Nat.le_refl _, Nat.le_refl _, Nat.zero_le _, rfl, rfl, rfl, HJ0⟩
  case round =>
    clear HJ0
    obtain ⟨k, m, p, H, Ps, v, hk, hm, hp, hpl, rfl, rfl, rfl, HJ⟩ := hrel
    by_cases h0 : k < n
    · have HSr := Lib.hid (HS.out.grow HJ.out.up (Nat.le_refl _))
      obtain ⟨b, off, hab, hb, hc⟩ := HSr.out.cell (by omega)
      subst hab
      have hsz := HSr.out.at h0
      have c1 := hc k h0
      generalize Ss.getD k ⟨#[]⟩ = q at *
      have hq9 : q.size ≤ 9223372036854775807 := hsz
      have HE2 := Lib.hid (HE.out m q hsz)
      clear hc HSr hsz
      cases hg : goodN (m : Int) false q.data.toList [] with
      | false =>
        rw [hg] at HE2
        generalize (⟨(encN (m : Int) false false q.data.toList []).toArray⟩ : ByteArray) = qe at *
        go_wp2_with (go_at_call 12; (with_reducible refine (HE2.out _ (HT.out _ HJ.out.up)).mono ?_); rintro e w3 ⟨rfl, h⟩; have HJ2 := Lib.hid (HJ.out.keep h); clear h)
        go_roundw
        case rel => exact ⟨k + 1, m, p, H, Ps, _, by omega, by omega, by omega, by omega, rfl, rfl, by go_num, HJ2⟩
        case measure => simp [intOf]; omega
      | true =>
        have he : encN (m : Int) false false q.data.toList [] = encV m q.data.toList := by unfold encN encV; rw [hg, if_pos rfl]
        have hel : (encV m q.data.toList).length = 17 + q.size := by
          unfold encV
          rw [sealed_length, raw_length]
          show 13 + q.data.toList.length + 0 + 4 = _
          have : q.data.toList.length = q.size := rfl
          omega
        rw [hg, he] at HE2
        have hqs : (⟨(encV m q.data.toList).toArray⟩ : ByteArray).size = 17 + q.size := hel
        obtain ⟨_, gk1, gk2, _⟩ := goodN_parts hg
        have hq64 : q.size ≤ 64 := gk2
        have HPB := Lib.hid (fun (h : H.size + (17 + q.size) ≤ s) => HJ.out.pb.hold q.data.toList hg (by rw [hel]; exact h))
        have HPN := Lib.hid (fun (h : 0 < H.size) (h' : 17 + q.size ≤ s) => HJ.out.pb.next h q.data.toList hg (by rw [hel]; exact h'))
        obtain ⟨qe, hqq⟩ : ∃ q' : ByteArray, ⟨(encV m q.data.toList).toArray⟩ = q' := ⟨_, rfl⟩
        rw [hqq] at HE2 hqs HPB HPN
        clear hqq hg he hel gk1 gk2
        by_cases g1 : s < qe.size
        · have g1' : (s : Int) < (qe.size : Int) := by omega
          go_wp2_with (go_at_call 12; (with_reducible refine (HE2.out _ (HT.out _ HJ.out.up)).mono ?_); rintro e w3 ⟨rfl, h⟩; have HJ2 := Lib.hid (HJ.out.keep h); clear h)
          go_roundw
          case rel => exact ⟨k + 1, m, p, H, Ps, _, by omega, by omega, by omega, by omega, rfl, rfl, by go_num, HJ2⟩
          case measure => simp [intOf]; omega
        · have g1' : ¬ (s : Int) < (qe.size : Int) := by omega
          have HAD : Hid (∀ W, PK W B g s H.data.toList p → _) := fun W hW => add_any B g s p H qe W hW (by unfold maxLen; omega) (by omega)
          have e0 : ¬ qe.size = 0 := by omega
          by_cases g3 : H.size + qe.size ≤ s
          · have ea : addQ s H qe = (⟨#[]⟩, false, 0, H ++ qe, 0) := by unfold addQ; rw [if_neg e0, if_neg g1, if_pos g3]
            rw [ea] at HAD
            have HPB2 := Lib.hid (HPB.out (by omega))
            go_wp2_with (first
              | (go_at_call 12; (with_reducible refine (HE2.out _ (HT.out _ HJ.out.up)).mono ?_); rintro e w3 ⟨rfl, h⟩; have HJ2 := Lib.hid (HJ.out.keep h); clear h)
              | (go_at_call 31; (with_reducible refine (HAD.out _ HJ2.out.pk).mono ?_); rintro e w4 ⟨rfl, hp4, ht4⟩; have HJ3 := Lib.hid (HJ2.out.turn (H' := H ++ qe) hp4 ht4 HPB2.out); clear hp4 ht4))
            go_roundw
            case rel => exact ⟨k + 1, m + 1, p + 0, H ++ qe, Ps, _, by omega, by omega, by omega, by omega, rfl, by go_num, by go_num, HJ3⟩
            case measure => simp [intOf]; omega
          · have ea : addQ s H qe = (H, true, 0, qe, 1) := by unfold addQ; rw [if_neg e0, if_neg g1, if_neg g3]
            rw [ea] at HAD
            have HPN2 := Lib.hid (HPN.out (by omega) (by omega))
            have HONE : Hid (∀ u ∈ [Value.string H], u.oneCell' = true) := by intro u hu; simp at hu; subst hu; rfl
            have HLN : Hid (Ps.length + 1 ≤ maxLen ∧ (Ps.length + 1) * 16 ≤ 140737488355328) := by show _ ∧ _; unfold maxLen; omega
            go_wp2_with (first
              | (go_at_call 12; (with_reducible refine (HE2.out _ (HT.out _ HJ.out.up)).mono ?_); rintro e w3 ⟨rfl, h⟩; have HJ2 := Lib.hid (HJ.out.keep h); clear h)
              | (go_at_call 31; (with_reducible refine (HAD.out _ HJ2.out.pk).mono ?_); rintro e w4 ⟨rfl, hp4, ht4⟩; have hup4 := Lib.hid (ht4.upd HJ2.out.up HJ2.out.hB (.inr HJ2.out.hg)); have hown4 := Lib.hid (HJ2.out.own.turn ht4); have hownA := Lib.hid (fun C => hown4.out.grow ((Upd.refl noBlock w4).alloc C)); have hrow := Lib.hid (Row1.one w4 9 (.string H)); have hszA := Lib.hid (fun C => (hup4.out.alloc C).size); have HFIN := Lib.hid (fun C w5 v5 hgr ho => PJ.paged (C := C) (w5 := w5) (v5 := v5) (H := H) hp4 hup4.out HJ.out.hB HJ.out.hg hown4.out HPN2.out hgr ho); clear hp4 ht4)
              | (at_builtin; refine wpList_append_vals _ rfl (.tmp 66) (.tmp 68) _ rfl w.heap.size 9 i0 z0 16 Tryd.underlying61 hi0 hz0 hz1 hz2 hz3 v Ps.length (Ps.map Value.string) rfl (hownA.out _) (w4.heap.size + 1) (some ⟨w4.heap.size, 0, none⟩) 1 1 [.string H] rfl hrow.out HONE.out HLN.out.1 HLN.out.2 (hszA.out _) ?_; intro v5 w5 hown5 hg5 _; have HJ5 := Lib.hid (HFIN.out _ _ _ hg5 hown5); clear hown5 hg5))
            go_roundw
            case rel => exact ⟨k + 1, m + 1, p + 1, qe, Ps ++ [H], _, by omega, by omega, by omega, by rw [List.length_append, List.length_singleton]; omega, rfl, by go_num, by go_num, HJ5⟩
            case measure => simp [intOf]; omega
    · obtain rfl : k = n := by omega
      obtain ⟨n0, hn0⟩ : ∃ n0, n0 = k := ⟨_, rfl⟩
      have HPK := Lib.hid (fun W (hW : PK W B g s H.data.toList p) => flush_any B g s p H W hW (by omega))
      clear HE HS
      by_cases g0 : 0 < H.size
      · rw [decide_eq_true g0, if_pos g0] at HPK
        have HPG0 := Lib.hid (HJ.out.pb.page g0)
        have HONE : Hid (∀ u ∈ [Value.string H], u.oneCell' = true) := by intro u hu; simp at hu; subst hu; rfl
        have HLN : Hid (Ps.length + 1 ≤ maxLen ∧ (Ps.length + 1) * 16 ≤ 140737488355328) := by show _ ∧ _; unfold maxLen; omega
        go_wp2_with (first
          | (go_at_call 32; (with_reducible refine (HPK.out _ HJ.out.pk).mono ?_); rintro e w4 ⟨rfl, hp4, ht4⟩; have hup4 := Lib.hid (ht4.upd HJ.out.up HJ.out.hB (.inr HJ.out.hg)); have hown4 := Lib.hid (HJ.out.own.turn ht4); have hownA := Lib.hid (fun C => hown4.out.grow ((Upd.refl noBlock w4).alloc C)); have hrow := Lib.hid (Row1.one w4 9 (.string H)); have hszA := Lib.hid (fun C => (hup4.out.alloc C).size); have HFIN := Lib.hid (fun C w5 v5 hgr ho => page_fin (C := C) (w5 := w5) (v5 := v5) (H := H) hup4.out hown4.out hgr ho); clear hp4 ht4)
          | (at_builtin; refine wpList_append_vals _ rfl (.tmp 78) (.tmp 80) _ rfl w.heap.size 9 i0 z0 16 Tryd.underlying61 hi0 hz0 hz1 hz2 hz3 v Ps.length (Ps.map Value.string) rfl (hownA.out _) (w4.heap.size + 1) (some ⟨w4.heap.size, 0, none⟩) 1 1 [.string H] rfl hrow.out HONE.out HLN.out.1 HLN.out.2 (hszA.out _) ?_; intro v5 w5 hown5 hg5 _; have HFN := Lib.hid (HFIN.out _ _ _ hg5 hown5); clear hown5 hg5))
        have HU6 := Lib.hid HFN.out.2
        have HOWN := Lib.hid HFN.out.1
        have HPG := HPG0
        have HQL0 : Hid ((Ps ++ [H]).length ≤ n0 + 1) := by show (Ps ++ [H]).length ≤ n0 + 1; rw [List.length_append, List.length_singleton]; omega
        generalize Ps ++ [H] = Qs at *
        have HQL : Hid (Qs.length ≤ n0 + 1) := HQL0
        clear HFN HFIN HPG0 hownA hrow hszA hown4 hup4 HJ HQL0 HONE HLN HPK
        obtain ⟨W6, hW6⟩ : ∃ W, W = w5 := ⟨_, rfl⟩
        rw [← hW6] at HU6 HOWN ⊢
        clear hW6
        generalize v5 = v9 at *
        obtain ⟨o, o1, o2, o3⟩ := HPG.out
        have hL := HQL.out
        generalize hQL : Qs.length = L at *
        have HO3 := Lib.hid o3
        obtain ⟨a9, c9, rfl, p9, q9, r9⟩ := own_slice HOWN.out
        rw [hQL] at r9 p9 ⊢
        have R9 := Lib.hid r9
        have HO1 := Lib.hid o1
        have HO2 := Lib.hid o2
        clear HOWN HPG o1 o2 o3 r9 HQL
        go_wp2_with fail
        go_loopw [16, 17] (fun vk vi wr => ∃ i : Nat, i ≤ L ∧ vk = .int .i64 (o i : Int) ∧ vi = .int .i64 (i : Int) ∧ o i ≤ i * 2048 ∧ Hid (Upd noBlock W6 wr)) (fun _ i _ => L - (intOf i).toNat)
        case atStart => exact ⟨0, Nat.zero_le _, by rw [HO1.out]; rfl, rfl, by rw [HO1.out]; exact Nat.zero_le _, Upd.refl _ _⟩
        case round =>
          obtain ⟨i, hi, rfl, rfl, hoi, HV⟩ := hrel
          by_cases h2 : i < L
          · obtain ⟨F, f1, f2, f3, f4, f5⟩ := HO3.out i h2
            obtain ⟨g9, rfl, s9⟩ := R9.out (by omega)
            have hzq : (Qs.getD i ⟨#[]⟩).size = (rowV (o i) F).length := by rw [f5]; rfl
            have HUP := Lib.hid (fun W hW => unpack_page (o i) F f2 (by omega) (Qs.getD i ⟨#[]⟩) f5 W hW)
            have HCQ : Hid (∀ W, Upd noBlock W6 W → W.cell? ⟨g9, i, none⟩ = some (.string (Qs.getD i ⟨#[]⟩))) := fun W hu => by
              rw [s9 W hu i (by omega), List.getElem?_map, List.getD_eq_getElem?_getD, List.getElem?_eq_getElem (by omega)]; rfl
            have HF := Lib.hid (nodesV_form (o i) F)
            have HN := Lib.hid (nodesV_at (o i) F)
            have hfl : F.length ≤ 2048 := by have := rowV_len (o i) F; omega
            have hq1 : (Qs.getD i ⟨#[]⟩).size ≤ s := by omega
            have hq2 : ¬ (s : Int) < ((Qs.getD i ⟨#[]⟩).size : Int) := by omega
            have hq3 : (Qs.getD i ⟨#[]⟩).size ≤ 9223372036854775807 := by omega
            generalize Qs.getD i ⟨#[]⟩ = q at *
            generalize nodesV (o i) F = NV at *
            generalize ho5 : o (i + 1) = oi' at *
            generalize o i = oi at *
            have hob : oi ≤ 18014398509481984 := by omega
            generalize F.length = mf at *
            have c1 := HCQ.out _ HV.out
            have hmf : (mf == 0) = false := by simp; omega
            have hmf' : ¬ (mf : Int) = 0 := by omega
            have hmf0 : ¬ mf = 0 := by omega
            have hmi : ((mf : Int) == 0) = false := by simp; omega
            have hq4 : decide (s < q.size) = false := decide_eq_false (by omega)
            have hq5 : ¬ s < q.size := by omega
            clear s9 f2 f3 f5 hzq
            go_wp2_with (go_at_call 28; (with_reducible refine (HUP.out _ (HT.out _ (HU6.out.trans HV.out))).mono ?_); rintro e w5 ⟨v5, v6, rfl, ho, h⟩; obtain ⟨a5, c5, rfl, p5, q5, r5⟩ := own_slice ho; obtain ⟨g5, rfl, s5⟩ := r5 f1; have S5 := Lib.hid s5; have HV2 := Lib.hid (HV.out.trans h); have c2 := HCQ.out _ HV2.out; clear h ho r5 s5)
            go_loop [16, 21] (fun vk vj => ∃ j : Nat, j ≤ mf ∧ vk = .int .i64 ((oi + j : Nat) : Int) ∧ vj = .int .i64 (j : Int)) (fun _ j => mf - (intOf j).toNat)
            case atStart => exact ⟨0, Nat.zero_le _, by rw [Nat.add_zero], rfl⟩
            case round =>
              obtain ⟨j, hj, rfl, rfl⟩ := hrel
              by_cases h3 : j < mf
              · obtain ⟨g', b', qk, qv, e5⟩ := HN.out j h3
                obtain ⟨z0, _, _, _, _⟩ := nodesC_at NV HF.out j _ g' b' qk qv e5
                have y0 := (S5.out _ (Upd.refl _ _) (5 * j) (by omega)).trans z0
                rw [show 5 * j = j * 5 from Nat.mul_comm _ _] at y0
                have hjb : oi + j ≤ 18014398509486080 := by omega
                have hs9 : ((oi + (j + 1) : Nat) : Int) = ((oi + j : Nat) : Int) + 1 := by omega
                generalize oi + j = oj at *
                clear z0 e5
                go_wp2_with fail
                go_round
                case rel => exact ⟨j + 1, by omega, by rw [hs9], by go_num⟩
                case measure => simp [intOf]; omega
              · obtain rfl : j = mf := by omega
                go_wp2_with fail
                go_roundw
                case rel => exact ⟨i + 1, by omega, by rw [ho5, f4], by go_num, by omega, HV2⟩
                case measure => simp [intOf]; omega
          · obtain rfl : i = L := by omega
            have e8 : o i = m := HO2.out
            rw [e8]
            go_wp2_with fail
            go_ret
            exact ⟨rfl, HU6.out.trans HV.out⟩
      · have g00 : H.size = 0 := by omega
        rw [decide_eq_false g0, if_neg g0] at HPK
        have HPG := Lib.hid (HJ.out.pb.none g00)
        go_wp2_with (go_at_call 32; (with_reducible refine (HPK.out _ HJ.out.pk).mono ?_); rintro e w4 ⟨rfl, hp4, ht4⟩; have HU6 := Lib.hid (ht4.upd HJ.out.up HJ.out.hB (.inr HJ.out.hg)); have HOWN := Lib.hid (HJ.out.own.turn ht4); clear hp4 ht4)
        have HQL : Hid (Ps.length ≤ n0 + 1) := by show Ps.length ≤ n0 + 1; omega
        generalize Ps = Qs at *
        obtain ⟨W6, hW6⟩ : ∃ W, W = w4 := ⟨_, rfl⟩
        rw [← hW6] at HU6 HOWN ⊢
        clear hW6 HJ HPK
        generalize v = v9 at *
        obtain ⟨o, o1, o2, o3⟩ := HPG.out
        have hL := HQL.out
        generalize hQL : Qs.length = L at *
        have HO3 := Lib.hid o3
        obtain ⟨a9, c9, rfl, p9, q9, r9⟩ := own_slice HOWN.out
        rw [hQL] at r9 p9 ⊢
        have R9 := Lib.hid r9
        have HO1 := Lib.hid o1
        have HO2 := Lib.hid o2
        clear HOWN HPG o1 o2 o3 r9 HQL
        go_wp2_with fail
        go_loopw [16, 17] (fun vk vi wr => ∃ i : Nat, i ≤ L ∧ vk = .int .i64 (o i : Int) ∧ vi = .int .i64 (i : Int) ∧ o i ≤ i * 2048 ∧ Hid (Upd noBlock W6 wr)) (fun _ i _ => L - (intOf i).toNat)
        case atStart => exact ⟨0, Nat.zero_le _, by rw [HO1.out]; rfl, rfl, by rw [HO1.out]; exact Nat.zero_le _, Upd.refl _ _⟩
        case round =>
          obtain ⟨i, hi, rfl, rfl, hoi, HV⟩ := hrel
          by_cases h2 : i < L
          · obtain ⟨F, f1, f2, f3, f4, f5⟩ := HO3.out i h2
            obtain ⟨g9, rfl, s9⟩ := R9.out (by omega)
            have hzq : (Qs.getD i ⟨#[]⟩).size = (rowV (o i) F).length := by rw [f5]; rfl
            have HUP := Lib.hid (fun W hW => unpack_page (o i) F f2 (by omega) (Qs.getD i ⟨#[]⟩) f5 W hW)
            have HCQ : Hid (∀ W, Upd noBlock W6 W → W.cell? ⟨g9, i, none⟩ = some (.string (Qs.getD i ⟨#[]⟩))) := fun W hu => by
              rw [s9 W hu i (by omega), List.getElem?_map, List.getD_eq_getElem?_getD, List.getElem?_eq_getElem (by omega)]; rfl
            have HF := Lib.hid (nodesV_form (o i) F)
            have HN := Lib.hid (nodesV_at (o i) F)
            have hfl : F.length ≤ 2048 := by have := rowV_len (o i) F; omega
            have hq1 : (Qs.getD i ⟨#[]⟩).size ≤ s := by omega
            have hq2 : ¬ (s : Int) < ((Qs.getD i ⟨#[]⟩).size : Int) := by omega
            have hq3 : (Qs.getD i ⟨#[]⟩).size ≤ 9223372036854775807 := by omega
            generalize Qs.getD i ⟨#[]⟩ = q at *
            generalize nodesV (o i) F = NV at *
            generalize ho5 : o (i + 1) = oi' at *
            generalize o i = oi at *
            have hob : oi ≤ 18014398509481984 := by omega
            generalize F.length = mf at *
            have c1 := HCQ.out _ HV.out
            have hmf : (mf == 0) = false := by simp; omega
            have hmf' : ¬ (mf : Int) = 0 := by omega
            have hmf0 : ¬ mf = 0 := by omega
            have hmi : ((mf : Int) == 0) = false := by simp; omega
            have hq4 : decide (s < q.size) = false := decide_eq_false (by omega)
            have hq5 : ¬ s < q.size := by omega
            clear s9 f2 f3 f5 hzq
            go_wp2_with (go_at_call 28; (with_reducible refine (HUP.out _ (HT.out _ (HU6.out.trans HV.out))).mono ?_); rintro e w5 ⟨v5, v6, rfl, ho, h⟩; obtain ⟨a5, c5, rfl, p5, q5, r5⟩ := own_slice ho; obtain ⟨g5, rfl, s5⟩ := r5 f1; have S5 := Lib.hid s5; have HV2 := Lib.hid (HV.out.trans h); have c2 := HCQ.out _ HV2.out; clear h ho r5 s5)
            go_loop [16, 21] (fun vk vj => ∃ j : Nat, j ≤ mf ∧ vk = .int .i64 ((oi + j : Nat) : Int) ∧ vj = .int .i64 (j : Int)) (fun _ j => mf - (intOf j).toNat)
            case atStart => exact ⟨0, Nat.zero_le _, by rw [Nat.add_zero], rfl⟩
            case round =>
              obtain ⟨j, hj, rfl, rfl⟩ := hrel
              by_cases h3 : j < mf
              · obtain ⟨g', b', qk, qv, e5⟩ := HN.out j h3
                obtain ⟨z0, _, _, _, _⟩ := nodesC_at NV HF.out j _ g' b' qk qv e5
                have y0 := (S5.out _ (Upd.refl _ _) (5 * j) (by omega)).trans z0
                rw [show 5 * j = j * 5 from Nat.mul_comm _ _] at y0
                have hjb : oi + j ≤ 18014398509486080 := by omega
                have hs9 : ((oi + (j + 1) : Nat) : Int) = ((oi + j : Nat) : Int) + 1 := by omega
                generalize oi + j = oj at *
                clear z0 e5
                go_wp2_with fail
                go_round
                case rel => exact ⟨j + 1, by omega, by rw [hs9], by go_num⟩
                case measure => simp [intOf]; omega
              · obtain rfl : j = mf := by omega
                go_wp2_with fail
                go_roundw
                case rel => exact ⟨i + 1, by omega, by rw [ho5, f4], by go_num, by omega, HV2⟩
                case measure => simp [intOf]; omega
          · obtain rfl : i = L := by omega
            have e8 : o i = m := HO2.out
            rw [e8]
            go_wp2_with fail
            go_ret
            exact ⟨rfl, HU6.out.trans HV.out⟩
theorem packBack_walk (x : Int) (a : Option Addr) (n c : Nat) (Ss : List ByteArray) (w : World) (wx : (Lit.int .i64 x).wf = true) (hr : Strs w w.heap.size a n Ss) (hn : n ≤ 8796093021952) (hT : Tab w) :
    Calls Tryd.prog 9 #[.int .i64 x, .slice a n c] w fun e w' => e = .returned (.bool true) ∧ Below w.heap.size w w' := by
  simp [Lit.wf, IntKind.min, IntKind.max, IntKind.signed, IntKind.bits] at wx
  exact Calls.mono (packBack_upd x a n c Ss w hr hn wx.1 wx.2 hT) fun _ _ (h : _ ∧ Upd noBlock w _) => ⟨h.1, h.2.below (fun _ _ h => h)⟩
end Go.Proofs.YthlheamnfjjamaaDoor
