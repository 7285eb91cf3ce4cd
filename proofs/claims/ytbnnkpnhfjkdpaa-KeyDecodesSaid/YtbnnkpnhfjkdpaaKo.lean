/- KeyDecodes. -/
import Derived.Test.YtbnnkpnhfjkdpaaKj
import Derived.Test.YtbnnkpnhfjkdpaaKm
namespace Go.Proofs.Ytbnnkpnhfjkdpaa
open Go.RowKit
theorem valN_zero (l : List UInt8) : valN (l.take 0) = 0 := rfl
attribute [local irreducible] beZ valN
attribute [local go_sem ↓] Go.wp_at_zero Go.wp_at_succ

theorem one_facts (W0 W : World) (K : Array Value) (h : Upd noBlock (W0.alloc (.cells K 25)) W) : (∀ i, W.cell? ⟨W0.heap.size, i, none⟩ = K[i]?) ∧ W0.heap.size < W.heap.size ∧ ¬ W0.heap.size = W.heap.size ∧ ¬ W.heap.size = W0.heap.size :=
  ⟨fun i => cell_of (h.cells (heap_alloc_new W0 _) (fun h => h)) i, by
    have := h.size
    rw [World.size_alloc] at this
    exact ⟨by omega, by omega, by omega⟩⟩
set_option maxRecDepth 20000 in
set_option maxHeartbeats 3200000 in
theorem keyDecodes_upd (s : ByteArray) (w : World) (hs : s.size ≤ 140737488351232) :
    Calls Try.prog 4 #[.string s] w fun e w' => e = .returned (.bool true) ∧ Upd noBlock w w' := by
  obtain ⟨l, rfl⟩ : ∃ l : List UInt8, s = ⟨l.toArray⟩ := ⟨s.data.toList, rfl⟩
  have hl : l.length ≤ 140737488351232 := hs
  have HS := Lib.hid speaks_any
  have HD := fun W => Decode_any l W (by omega)
  by_cases hd : decOk l = true
  · have hp := hd
    unfold decOk at hp
    rw [Bool.and_eq_true, Bool.and_eq_true] at hp
    obtain ⟨h9, hg, he⟩ := hp
    have he' : encK (numL l) (kindL l) (nameL l) (pieceL l) = l := by simpa using he
    have hv : decV l = .agg #[.int .i64 (numL l), .int .i64 (kindL l), .string ⟨(nameL l).toArray⟩, .int .i64 (pieceL l)] := by
      unfold decV
      rw [hd, if_pos rfl]; rfl
    rw [hv, hd] at HD
    have hnl : (nameL l).length ≤ maxLen := by
      unfold nameL maxLen
      split
      · rw [List.length_drop]; omega
      · simp
    have HR := fun W => refEncode_any (numL l) (kindL l) (nameL l) (pieceL l) W hnl
    rw [hg, if_pos rfl, he'] at HR
    obtain ⟨q, hq⟩ : ∃ q : ByteArray, ⟨l.toArray⟩ = q := ⟨_, rfl⟩
    obtain ⟨qn, hqn⟩ : ∃ q : ByteArray, ⟨(nameL l).toArray⟩ = q := ⟨_, rfl⟩
    rw [hq] at HD HR
    rw [hqn] at HD HR
    rw [hq]
    clear hq hqn hd h9 hg he he' hv hnl hs hl
    generalize numL l = n at *
    generalize kindL l = k at *
    generalize pieceL l = p at *
    replace HD := Lib.hid HD
    replace HR := Lib.hid HR
    go_enter Try.func4, Try.ntmps4
    go_wp2_with (first
      | (go_at_call 8; with_reducible refine (HS.out _).mono ?_; rintro e w1 ⟨rfl, h⟩; have HA := Lib.hid h; clear h)
      | (go_at_call 13; with_reducible refine (HD.out _).mono ?_; rintro e w2 ⟨rfl, h⟩; have HX := Lib.hid (HA.out.trans h); clear h)
      | (go_at_call 11; with_reducible refine (HR.out _).mono ?_; rintro e w4 ⟨rfl, h⟩; have HZ := Lib.hid ((HX.out.alloc _).trans h); clear h))
    go_ret
    exact ⟨rfl, HZ.out⟩
  · have hd' : decOk l = false := by simpa using hd
    have hv : decV l = .agg #[.int .i64 0, .int .i64 0, .string ⟨#[]⟩, .int .i64 0] := by
      unfold decV
      rw [hd', if_neg (by decide)]; rfl
    rw [hv, hd'] at HD
    by_cases h9 : l.length < 9
    · have h9' : (l.length : Int) < 9 := by omega
      obtain ⟨q, hq⟩ : ∃ q : ByteArray, ⟨l.toArray⟩ = q := ⟨_, rfl⟩
      have hsz : q.size = l.length := by rw [← hq]; rfl
      rw [hq] at HD
      rw [hq]
      clear hq hd hd' hv h9
      replace HD := Lib.hid HD
      go_enter Try.func4, Try.ntmps4
      go_wp2_with (first
        | (go_at_call 8; with_reducible refine (HS.out _).mono ?_; rintro e w1 ⟨rfl, h⟩; have HA := Lib.hid h; clear h)
        | (go_at_call 13; with_reducible refine (HD.out _).mono ?_; rintro e w2 ⟨rfl, h⟩; have HX := Lib.hid (HA.out.trans h); clear h))
      go_ret
      exact ⟨rfl, HX.out.alloc _⟩
    · have HG := fun W => refGood_any ((valN (l.take 8) : Nat) : Int) (kindL l) (l.drop 9) 0 W (by rw [List.length_drop]; unfold maxLen; omega)
      have hgF : ¬ kindL l = 3 → goodK ((valN (l.take 8) : Nat) : Int) (kindL l) (l.drop 9) 0 = false := fun hk => by
        cases hg : goodK ((valN (l.take 8) : Nat) : Int) (kindL l) (l.drop 9) 0 with
        | false => rfl
        | true => rw [dec_name l (by omega) hk hg] at hd'; cases hd'
      have hpF : kindL l = 3 → l.length = 13 → 1099511627776 < valN (l.take 8) := fun hk h13 => by
        by_cases h : valN (l.take 8) ≤ 1099511627776
        · rw [dec_piece l h13 hk h] at hd'; cases hd'
        · omega
      have hk : ∃ c : UInt8, l[8]? = some c ∧ kindL l = (c.toNat : Int) := ⟨l[8], by rw [List.getElem?_eq_getElem (by omega)], by unfold kindL; rw [List.getD_eq_getElem?_getD, List.getElem?_eq_getElem (by omega)]; rfl⟩
      obtain ⟨c, hc, hkc⟩ := hk
      have hx9 : (ByteArray.mk l.toArray).extract 9 l.length = ⟨(l.drop 9).toArray⟩ := by
        apply ByteArray.ext; apply Array.ext'; simp
        exact List.take_of_length_le (by simp)
      have hat : ∀ h : 8 < (ByteArray.mk l.toArray).size, ((ByteArray.mk l.toArray)[8]'h).toNat = c.toNat := fun h => by
        obtain ⟨_, e⟩ := List.getElem?_eq_some_iff.1 hc
        rw [← e]; rfl
      obtain ⟨q, hq⟩ : ∃ q : ByteArray, ⟨l.toArray⟩ = q := ⟨_, rfl⟩
      obtain ⟨q9, hq9⟩ : ∃ q : ByteArray, ⟨(l.drop 9).toArray⟩ = q := ⟨_, rfl⟩
      have hsz : q.size = l.length := by rw [← hq]; rfl
      have HX : Hid (∀ k (h : k < q.size), (valN (l.take (k + 1)) = 256 * valN (l.take k) + (q[k]'h).toNat)) := fun k h => by
        have h' : k < l.length := by omega
        rw [List.take_add_one, List.getElem?_eq_getElem h']
        show valN (l.take k ++ [l[k]]) = _
        rw [valN_snoc]
        subst hq
        rfl
      rw [hq] at HD hx9 hat
      rw [hq9] at HG hx9
      rw [hq]
      rw [hkc] at HG hgF hpF
      have h9' : ¬ (l.length : Int) < 9 := by omega
      have hn9 : l.length ≤ 9223372036854775807 := by omega
      have hc8 : c.toNat < 256 := c.toNat_lt
      generalize c.toNat = m at *
      have hw1 : IntKind.i64.wrap (m : Int) = (m : Int) := wrap_i64_nat m (by omega)
      have hw2 : wrap64 (m : Int) = (m : Int) := by unfold wrap64; omega
      have H0 : Hid (valN (l.take 0) = 0) := valN_zero l
      clear hq hq9 hd hd' hv hc hkc hs hl
      generalize hf : (fun k => valN (l.take k)) = f at *
      have hf' : ∀ k, valN (l.take k) = f k := fun k => congrFun hf k
      simp only [hf'] at *
      clear hf hf'
      generalize l.length = len at *
      replace HD := Lib.hid HD
      replace HG := Lib.hid HG
      have HGF := Lib.hid hgF
      have HPF := Lib.hid hpF
      clear hgF hpF
      go_enter Try.func4, Try.ntmps4
      go_wp2_with (first
        | (go_at_call 8; with_reducible refine (HS.out _).mono ?_; rintro e w1 ⟨rfl, h⟩; have HA := Lib.hid h; clear h)
        | (go_at_call 13; with_reducible refine (HD.out _).mono ?_; rintro e w2 ⟨rfl, h⟩; have HX2 := Lib.hid (HA.out.trans h); clear h))
      have HX3 : Hid (Upd noBlock w (w2.alloc (.cells #[.int .i64 0, .int .i64 0, .string ⟨#[]⟩, .int .i64 0] 25))) := HX2.out.alloc _
      clear HX2
      generalize (w2.alloc (.cells #[.int .i64 0, .int .i64 0, .string ⟨#[]⟩, .int .i64 0] 25)) = wz at *
      go_loopw [5, 6] (fun x i wr => ∃ k : Nat, k ≤ 8 ∧ i = .int .i64 (k : Int) ∧ x = .int .i64 ((f k : Nat) : Int) ∧ Hid (wr = wz)) (fun _ i _ => 8 - (intZ i).toNat)
      case atStart => exact ⟨0, by omega, rfl, by rw [H0.out]; rfl, rfl⟩
      case round =>
        obtain ⟨k, hk, rfl, rfl, HW⟩ := hrel
        by_cases h0 : k < 8
        · by_cases hbig : 1099511627776 < f k
          · have hb' : (1099511627776 : Int) < (f k : Int) := by omega
            go_wp2_with fail
            go_ret
            exact ⟨rfl, by rw [HW.out]; exact HX3.out⟩
          · have hk2 : k < q.size := by omega
            have hN := HX.out k hk2
            have hb := (q[k]'hk2).toNat_lt
            have HN := Lib.hid hN
            have hle : f k ≤ 1099511627776 := by omega
            clear hN
            go_wp2_with fail
            go_roundw
            case rel => exact ⟨k + 1, by omega, by go_num, by rw [HN.out]; go_num, HW⟩
            case measure => simp [intZ]; omega
        · obtain rfl : k = 8 := by omega
          by_cases k3 : (m : Int) = 3
          · have h3 : ((m : Int) == 3) = true := by simpa using k3
            by_cases h13 : len = 13
            · have hbig : (1099511627776 : Int) < (f 8 : Int) := by have := HPF.out k3 h13; omega
              have h13' : ((len : Int) == 13) = true := by simp; omega
              go_wp2_with fail
              go_region
              go_wp2_with fail
              go_ret
              exact ⟨rfl, by rw [HW.out]; exact (HX3.out.alloc _).drew⟩
            · have h13' : ((len : Int) == 13) = false := by simp; omega
              go_wp2_with fail
              go_region
              go_wp2_with fail
              go_ret
              exact ⟨rfl, by rw [HW.out]; exact (HX3.out.alloc _).drew⟩
          · have h3 : ((m : Int) == 3) = false := by simpa using k3
            have hg := HGF.out k3
            rw [hg] at HG
            have h0q : 0 < q.size := by omega
            by_cases h127 : (127 : Int) < ((q[0]'h0q).toNat : Int)
            · go_wp2_with fail
              go_region
              go_wp2_with fail
              go_ret
              exact ⟨rfl, by rw [HW.out]; exact (HX3.out.alloc _).drew⟩
            · go_wp2_with fail
              go_region
              go_wp2_with (go_at_call 12; with_reducible refine (HG.out _).mono ?_; rintro e w5 ⟨rfl, h⟩; have HV := Lib.hid h; clear h)
              go_ret
              exact ⟨rfl, by have hw := HW.out; subst hw; exact ((HX3.out.alloc _).drew).trans HV.out⟩
theorem keyDecodes_walk (s : ByteArray) (w : World) (hs : s.size ≤ 140737488351232) :
    Calls Try.prog 4 #[.string s] w fun e w' => e = .returned (.bool true) ∧ Below w.heap.size w w' :=
  (keyDecodes_upd s w hs).mono fun _ _ ⟨h, hu⟩ => ⟨h, hu.below (fun _ _ h => h)⟩
end Go.Proofs.Ytbnnkpnhfjkdpaa
