/- The document's parity of payloads. -/
import Derived.Test.YtkjajmhanhbkdaaTh
namespace Go.Proofs.Ytkjajmhanhbkdaa
open Go.RowKit

theorem byteParts7 : ∃ i0, Try.prog.info? 5 = some i0 ∧ i0.zero = some (.int .u8 0) ∧ i0.size = 1 ∧ i0.bytes = 1 := by
  obtain ⟨i0, h1, h2⟩ := Option.map_eq_some_iff.1 byteInfo7
  simp only [Prod.mk.injEq] at h2
  exact ⟨i0, h1, h2.1, h2.2.1, h2.2.2⟩
def bvals (l : List UInt8) : List Value := l.map fun c => Value.int .u8 ((c.toNat : Nat) : Int)
/-- a slice of bytes of the call's own; nil as long as there are none -/
def OwnB (w : World) (B : Nat) (v : Value) (l : List UInt8) : Prop := w.ownsRow B 5 1 v l.length (bvals l) ∧ (l = [] → v = .slice none 0 0)
theorem OwnB.nil (w : World) (B : Nat) : OwnB w B (.slice none 0 0) [] := ⟨World.ownsRow_nil _ _ _ _, fun _ => rfl⟩
theorem ownsRow_grow {w w' : World} {B : Nat} {e : TypeId} {n m : Nat} {v : Value} {xs : List Value} (h : w.ownsRow B e n v m xs) (hu : Upd noBlock w w') : w'.ownsRow B e n v m xs := by
  obtain ⟨hl, h⟩ := h
  refine ⟨hl, ?_⟩
  rcases h with ⟨h1, h2⟩ | ⟨g, cap, cur, rfl, hb, hg, r⟩
  · exact .inl ⟨h1, h2⟩
  · exact .inr ⟨g, cap, cur, rfl, hb, (hu.block g (lt_of_block hg) (fun h => h)).trans hg, r⟩
theorem OwnB.snoc {w : World} {B : Nat} {v : Value} {l : List UInt8} {c : UInt8} (h : w.ownsRow B 5 1 v (l.length + 1) (bvals l ++ [Value.int .u8 ((c.toNat : Nat) : Int)])) : OwnB w B v (l ++ [c]) := by
  refine ⟨?_, fun h => absurd h (by simp)⟩
  have e1 : (l ++ [c]).length = l.length + 1 := by simp
  have e2 : bvals (l ++ [c]) = bvals l ++ [Value.int .u8 ((c.toNat : Nat) : Int)] := by simp [bvals]
  rw [e1, e2]; exact h
theorem OwnB.text {w : World} {B : Nat} {v : Value} {l : List UInt8} (h : OwnB w B v l) : (convert 58 9 v).run Try.prog w = .ok (.string ⟨l.toArray⟩) w := by
  rcases h.1.2 with ⟨h1, h2⟩ | ⟨g, cap, cur, h1, hb, hg, hnc, hcm, hsz, htake⟩
  · have hl : l = [] := List.eq_nil_of_length_eq_zero h2
    subst hl
    rw [h.2 rfl]
    rw [run_convert_bytes_string w 58 9 5 none 0 0 Try.underlying58 Try.underlying5 Try.underlying9]
    rfl
  · rw [h1]
    refine run_convert_bytes_back (P := Try.prog) w 58 9 5 ⟨g, 0, none⟩ cap l Try.underlying58 Try.underlying5 Try.underlying9 fun j hj => ?_
    rw [add_zero_addr, cell_of hg]
    have : (cur.toList.take (l.length * 1))[j]? = (bvals l)[j]? := by rw [htake]
    rw [List.getElem?_take, if_pos (by omega), Array.getElem?_toList] at this
    rw [this]
    unfold bvals
    rw [List.getElem?_map, List.getElem?_eq_getElem hj]
    rfl
set_option maxRecDepth 100000 in
set_option maxHeartbeats 3200000 in
theorem refXor_any (x : Int) (a : Option Addr) (n c B : Nat) (Ss : List ByteArray) (w : World) (hr : Strs w B a n Ss) (hB : B ≤ w.heap.size) (hn : n ≤ 8796093022208) :
    Calls Try.prog 17 #[.int .i64 x, .slice a n c] w fun e w' => e = .returned (.string ⟨(xorL x Ss).toArray⟩) ∧ Upd noBlock w w' := by
  obtain ⟨i0, hi0, hz0, hz1, hz2⟩ := byteParts7
  have HS := Lib.hid hr
  have HBB := Lib.hid hB
  obtain ⟨m, hm⟩ : ∃ m, xsz x = m := ⟨_, rfl⟩
  have hmle : m ≤ 2048 := by rw [← hm]; exact xsz_le x
  have HX : Hid (xorL x Ss = (List.range m).map (xb Ss)) := by show _ = _; unfold xorL; rw [hm]
  have key : ∃ V : Int, ((x ≤ 2048 ∧ V = x) ∨ (2048 < x ∧ V = 2048)) ∧ (∀ i : Nat, i < m → (i : Int) < V) ∧ ¬ (m : Int) < V := by
    unfold xsz at hm
    by_cases h : x ≤ 2048
    · exact ⟨x, .inl ⟨h, rfl⟩, fun i hi => by omega, by omega⟩
    · exact ⟨2048, .inr ⟨by omega, rfl⟩, fun i hi => by omega, by omega⟩
  obtain ⟨V, hV, hlt, hge⟩ := key
  have HLT := Lib.hid hlt
  have HGE := Lib.hid hge
  clear hr hB hm hlt hge
  rcases hV with ⟨hx, rfl⟩ | ⟨hx, rfl⟩
  all_goals
    go_enter Try.func17, Try.ntmps17
    go_wp2
    go_loopw [5, 6] (fun v i wr => ∃ k : Nat, k ≤ m ∧ i = .int .i64 (k : Int) ∧ Hid (OwnB wr w.heap.size v ((List.range k).map (xb Ss))) ∧ Hid (Upd noBlock w wr)) (fun _ i _ => m - (intOf i).toNat)
    case atStart => exact ⟨0, Nat.zero_le _, rfl, OwnB.nil _ _, Upd.refl _ _⟩
    case round =>
      obtain ⟨k, hk, rfl, HO, HU⟩ := hrel
      by_cases h0 : k < m
      · have hlt := HLT.out k h0
        go_wp2
        obtain ⟨wo, rfl⟩ : ∃ wo : World, wo = wr := ⟨_, rfl⟩
        go_loopw [7, 8] (fun b i wr => ∃ j : Nat, j ≤ n ∧ i = .int .i64 (j : Int) ∧ Hid (b = .int .u8 (((xb (Ss.take j) k).toNat : Nat) : Int)) ∧ Hid (wo = wr)) (fun _ i _ => n - (intOf i).toNat)
        case atStart => exact ⟨0, Nat.zero_le _, rfl, rfl, rfl⟩
        case round =>
          obtain ⟨j, hj, rfl, HV, HW⟩ := hrel
          obtain rfl := HW.out
          obtain rfl := HV.out
          clear HW HV
          by_cases j0 : j < n
          · obtain ⟨b, off, hab, hb, hc⟩ := HS.out.cell (by omega)
            subst hab
            have hsz := HS.out.at j0
            have HT := Lib.hid (takeS_snoc Ss j (by rw [HS.out.len]; exact j0))
            obtain ⟨s, hs⟩ : ∃ s, Ss.getD j ⟨#[]⟩ = s := ⟨_, rfl⟩
            have c1 : wo.cell? ⟨b, off + j, none⟩ = some (.string s) := by rw [← hs]; exact (World.cell?_of_block (HU.out.block b (by have := HBB.out; omega) (fun h => h))).trans (hc j j0)
            rw [hs] at hsz HT
            have hsz' : s.size ≤ 9223372036854775807 := hsz
            clear hc hs hsz
            by_cases hks : k < s.size
            · have hx8 : bits .xor .u8 (((xb (Ss.take j) k).toNat : Nat) : Int) ((s[k].toNat : Nat) : Int) = (((xb (Ss.take (j + 1)) k).toNat : Nat) : Int) := by
                rw [HT.out, u8_xor_u8, xb_snoc, getD_byte s k hks]
              generalize (xb (Ss.take j) k).toNat = z0 at *
              go_wp2
              go_roundw
              case rel => exact ⟨j + 1, by omega, by go_num, (by first | exact rfl | exact trivial), (by first | exact rfl | exact trivial)⟩
              case measure => simp [intOf]; omega
            · have HE : Hid (xb (Ss.take (j + 1)) k = xb (Ss.take j) k) := by
                show _ = _
                rw [HT.out, xb_snoc, getD_none s k (by omega)]
                simp
              have hks' : s.size ≤ k := by omega
              clear hks
              go_wp2
              go_roundw
              case rel => exact ⟨j + 1, by omega, by go_num, by rw [HE.out]; exact rfl, (by first | exact rfl | exact trivial)⟩
              case measure => simp [intOf]; omega
          · obtain rfl : j = n := by omega
            have e : Ss.take j = Ss := List.take_of_length_le (by rw [HS.out.len]; omega)
            rw [e]
            have hbase := HU.out.size
            have HO2 := Lib.hid (ownsRow_grow HO.out.1 ((Upd.refl noBlock wo).alloc (.cells #[.int .u8 (((xb Ss k).toNat : Nat) : Int)] 5)))
            have HU2 := Lib.hid (HU.out.alloc (.cells #[.int .u8 (((xb Ss k).toNat : Nat) : Int)] 5))
            have HI := Lib.hid (Row1.one wo 5 (.int .u8 (((xb Ss k).toNat : Nat) : Int)))
            have HL : Hid (((List.range k).map (xb Ss)).length = k) := by show _ = _; simp
            clear e
            go_wp2_with (at_builtin; refine wpList_append_vals _ rfl (.tmp 37) (.tmp 39) _ rfl w.heap.size 5 i0 _ 1 Try.underlying58 hi0 hz0 hz1 hz2 rfl _ ((List.range k).map (xb Ss)).length (bvals ((List.range k).map (xb Ss))) rfl HO2.out (wo.heap.size + 1) (some ⟨wo.heap.size, 0, none⟩) 1 1 [.int .u8 (((xb Ss k).toNat : Nat) : Int)] rfl HI.out (by intro u hu; simp at hu; subst hu; rfl) (by have := HL.out; simp only [maxLen]; omega) (by have := HL.out; omega) (by simp; omega) ?_; intro v3 w3 hown3 hg3 _)
            go_roundw
            case rel =>
              refine ⟨k + 1, by omega, by go_num, ?_, HU2.out.grownOwn hg3 (fun i hi => (HO2.out.lt i hi).1)⟩
              rw [List.range_succ, List.map_append]
              exact OwnB.snoc hown3
            case measure => simp [intOf]; omega
      · obtain rfl : k = m := by omega
        have hge := HGE.out
        have hcv := HO.out.text
        go_wp2
        go_ret
        exact ⟨by rw [HX.out]; rfl, HU.out⟩
end Go.Proofs.Ytkjajmhanhbkdaa
