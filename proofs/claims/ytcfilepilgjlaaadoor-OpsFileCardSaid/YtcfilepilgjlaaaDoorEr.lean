/- Cut. -/
import Derived.Test.YtcfilepilgjlaaaDoorEm
namespace Go.Proofs.YtcfilepilgjlaaaDoor
open Go.RowKit

theorem R8.clearA {w : World} {g n : Nat} {f : Nat → UInt8} (h : R8 w g n f) (o m c : Nat) (hm : 0 < m) (ho : o + m ≤ n) :
    ∃ w', (∀ ty, (Builtin.clear_ #[37] ty #[.slice (some ⟨g, o, none⟩) m c]).run Tryd.prog w = .ok (.tuple #[]) w') ∧ R8 w' g n (fun j => if o ≤ j ∧ j < o + m then 0 else f j) ∧ Upd (oneBlock g) w w' := by
  obtain ⟨w', h1, h2, h3⟩ := h.clear o m c 0 hm ho
  have hrun := fun ty => Lib.run_clear_slice (P := Tryd.prog) w 37 5 ty (.int .u8 0) Tryd.underlying37 zero8 rfl rfl g o m c hm (fun j hj => by rw [h.cell (o + j) (by omega)]; rfl) (fun j hj => h.free _)
  have e := hrun 0
  rw [h1] at e
  have e2 : w' = w.setCells g o (List.replicate m (.int .u8 0)) := by injection e
  refine ⟨w', fun ty => ?_, h2, h3⟩
  rw [hrun ty, e2]
/-- the changes of a cut -/
def ctF (x : Int) (q : ByteArray) : Nat → UInt8 := fun j => if (x % 64).toNat ≤ j ∧ j < (x % 64).toNat + (64 - (x % 64).toNat) then 0 else spF [q] j
def ctA (x : Int) (q : ByteArray) : List (Int × List UInt8) := if 0 < x % 64 then difL (x / 64) (spF [q]) (ctF x q) 1 else []
def ctB (x : Int) (k : Nat) : List (Int × List UInt8) := (List.range k).map fun (i : Nat) => (pcs x + (i : Int), [])
theorem ctB_snoc (x : Int) (k : Nat) : ctB x (k + 1) = ctB x k ++ [(pcs x + (k : Int), [])] := by unfold ctB; rw [List.range_succ, List.map_append]; rfl
theorem ctA_len (x : Int) (q : ByteArray) : (ctA x q).length ≤ 1 := by
  unfold ctA
  split
  · exact difL_len _ _ _ _
  · exact Nat.zero_le _
theorem chC_nil (nm p : Int) : chC nm p [] = #[.int .i64 nm, .int .i64 3, .string ⟨#[]⟩, .int .i64 p, .string ⟨#[]⟩, .bool true] := rfl
set_option maxRecDepth 100000 in
set_option maxHeartbeats 1600000 in
theorem Cut_any (nm size x : Int) (q : ByteArray) (w : World) (h0 : 0 ≤ x) (h1 : x < size) (h2 : size ≤ 8192) (hq : q.size ≤ maxLen) :
    Calls Tryd.prog 12 #[.int .i64 nm, .int .i64 size, .int .i64 x, .string q] w fun e w' => ∃ v, e = .returned v ∧ Chs w w' nm v (ctA x q ++ ctB x (pcs size - pcs x).toNat) := by
  obtain ⟨i0, z0, hi0, hz0, hz1, hz2, hz3⟩ := chParts
  obtain ⟨j0, hj0, hy0, hy1, hy2⟩ := info_parts strInfo8
  have hp1 := pcs_eq x
  have hp2 := pcs_eq size
  obtain ⟨n, hn⟩ : ∃ n, (pcs size - pcs x).toNat = n := ⟨_, rfl⟩
  obtain ⟨P, hP⟩ : ∃ P, pcs x = P := ⟨_, rfl⟩
  obtain ⟨Q, hQ⟩ : ∃ Q, pcs size = Q := ⟨_, rfl⟩
  have HPX : Hid (∀ w, Calls Tryd.prog 20 #[.int .i64 x] w fun e w' => e = .returned (.int .i64 P) ∧ w = w') := fun w => (piecesOf_any x w h0 (by omega)).mono fun e w' h => ⟨by rw [h.1, hP], h.2.symm⟩
  have HPS : Hid (∀ w, Calls Tryd.prog 20 #[.int .i64 size] w fun e w' => e = .returned (.int .i64 Q) ∧ w = w') := fun w => (piecesOf_any size w (by omega) (by omega)).mono fun e w' h => ⟨by rw [h.1, hQ], h.2.symm⟩
  rw [hn]
  have hPQ : P ≤ Q := by omega
  have hQn : Q = P + (n : Int) := by omega
  have hP0 : 0 ≤ P := by omega
  have hQ1 : Q ≤ 200 := by omega
  have HB : Hid (∀ k, ctB x (k + 1) = ctB x k ++ [(P + (k : Int), [])]) := fun k => by rw [ctB_snoc, hP]
  have hCL := ctA_len x q
  have hd : ¬ size - x > 2147483647 := by omega
  have ha : ¬ x < 0 := by omega
  have hb : ¬ size ≤ x := by omega
  have hCB : ∀ k, (ctB x k).length = k := fun k => by unfold ctB; simp
  have HCB := Lib.hid hCB
  have HCL := Lib.hid hCL
  have HQN := Lib.hid hQn
  have e1 : x.tmod 64 = x % 64 := Int.tmod_eq_emod_of_nonneg h0
  have e2 : x.tdiv 64 = x / 64 := Int.tdiv_eq_ediv_of_nonneg h0
  have HOWN : Hid (∀ (W : World) (p : Int), ∀ j u, (chC nm p []).toList[j]? = some u → (W.alloc (.cells (chC nm p []) 42)).cell? ((⟨W.heap.size, 0, none⟩ : Addr).add j) = some u) := fun W p => chs_new W nm p []
  clear hp1 hp2 hn hP hQ hCL hCB hQn
  by_cases hr : 0 < x % 64
  · obtain ⟨r, hr'⟩ : ∃ r : Nat, (x % 64).toNat = r := ⟨_, rfl⟩
    obtain ⟨F, hF⟩ : ∃ F, x / 64 = F := ⟨_, rfl⟩
    have eA : ctA x q = difL F (spF [q]) (fun j => if r ≤ j ∧ j < r + (64 - r) then 0 else spF [q] j) 1 := by
      unfold ctA ctF; rw [if_pos hr, hr', hF]
    obtain ⟨A, hA⟩ : ∃ A, ctA x q = A := ⟨_, rfl⟩
    rw [hA] at HCL eA ⊢
    have hxr : x % 64 = (r : Int) := by omega
    have hr0 : 0 < r := by omega
    have hr64 : r < 64 := by omega
    have HS1 : Hid (∀ W : World, Calls Tryd.prog 15 #[.slice (some ⟨W.heap.size, 0, none⟩) 1 1, .int .i64 1] (W.alloc (.cells #[.string q] 9)) fun e w' => ∃ g, e = .returned (.slice (some ⟨g, 0, none⟩) 64 64) ∧ W.heap.size + 1 ≤ g ∧ R8 w' g 64 (spF [q]) ∧ Upd noBlock (W.alloc (.cells #[.string q] 9)) w') := fun W => by
      have h := spread_any (some ⟨W.heap.size, 0, none⟩) 1 1 (W.heap.size + 1) 1 [q] (W.alloc (.cells #[.string q] 9)) (Strs.one W _ q hq) (by rw [World.size_alloc]; exact Nat.le_refl _) (Nat.le_refl _) (Nat.le_refl _) (by decide)
      rw [World.size_alloc] at h
      exact h
    have HEA := Lib.hid eA
    have hFF : 0 ≤ F ∧ F ≤ 200 := by omega
    have HXR := Lib.hid hxr
    rw [hF] at e2
    rw [hxr] at e1
    clear hr hA eA hF hr' hxr
    go_enter Tryd.func12, Tryd.ntmps12
    go_wp2_with (first
      | (go_at_call 15; (with_reducible refine (HS1.out _).mono ?_); rintro e w2 ⟨g1, rfl, hg1, r1, u1⟩; have HCLN := Lib.hid (Clone_any g1 64 64 _ w2 r1 (by decide) (by decide)); have R1 := Lib.hid r1; have U1 := Lib.hid (((Upd.refl noBlock w).alloc (.cells #[.string q] 9)).trans u1); clear r1 u1)
      | (go_at_call 16; (with_reducible refine HCLN.out.mono ?_); rintro e w3 ⟨g3, c3, rfl, hc3, hc3m, hg3, r3, u3⟩; have hslo := (fun w' => slice8lo w' g3 0 64 c3 r (r : Int) rfl (by omega) (by omega)); (obtain ⟨w4, hcl, r4, u4⟩ := r3.clearA r (64 - r) (c3 - r) (by omega) (by omega)); have hcl2 := hcl 0; have R4 := Lib.hid r4; have R5 := Lib.hid ((R1.out.grow u3).upd u4 (fun e => by have := R1.out.lt; unfold oneBlock at e; omega)); have U4 := Lib.hid (U1.out.trans (u3.step u4 (fun i hi e => by unfold oneBlock at e; omega))); have HDD := Lib.hid (differences_any nm F g1 64 g3 c3 1 _ _ w4 R5.out R4.out (by decide) hc3 (by decide) hFF.1 (by omega)); rw [← HEA.out] at HDD; clear r3 u3 r4 u4)
      | (go_at_call 17; (with_reducible refine HDD.out.mono ?_); rintro e w5 ⟨v5, rfl, k5⟩; have K5 := Lib.hid (k5.back U4.out); clear k5)
      | (go_at_call 20; (with_reducible refine (HPX.out _).mono ?_); rintro e w1 ⟨rfl, rfl⟩))
    have ST : Hid (Chs w w5 nm v5 (A ++ ctB x 0)) := by
      have : A ++ ctB x 0 = A := by unfold ctB; simp
      rw [this]; exact K5.out
    clear K5 HDD HCLN R1 U1 R4 R5 U4 HS1 hcl hcl2 hslo
    go_loopw [9, 13] (fun v i wr => ∃ (y : Value) (k : Nat), k ≤ n ∧ y = v ∧ i = .int .i64 (P + (k : Int)) ∧ Hid (Chs w wr nm y (A ++ ctB x k))) (fun _ i _ => (P + (n : Int) - intOf i).toNat)
    case atStart => exact ⟨_, 0, Nat.zero_le _, rfl, by simp, ST⟩
    case round =>
      clear ST
      obtain ⟨y, k, hk, rfl, rfl, HL⟩ := hrel
      by_cases k0 : k < n
      · have t1 : P + (k : Int) < Q := by have := HQN.out; omega
        have HCH := Lib.hid (fun W => changeOf_nil nm (P + (k : Int)) W)
        have HN := Lib.hid (fun W => HOWN.out W (P + (k : Int)))
        have HO := Lib.hid (chs_one nm (P + (k : Int)) [])
        have HS := Lib.hid (fun w1 w2 v' (h : Chs w w1 nm y (A ++ ctB x k)) hg ho => Chs.snoc (w2 := w2) (v' := v') (P + (k : Int), []) h hg ho)
        have HXB : Hid (A ++ ctB x (k + 1) = A ++ ctB x k ++ [(P + (k : Int), [])]) := by show _ = _; rw [HB.out k, List.append_assoc]
        have HB1 : Hid ((A ++ ctB x k).length + 1 ≤ maxLen ∧ ((A ++ ctB x k).length + 1) * 64 ≤ 140737488355328) := by
          have := HCB.out k
          have := HCL.out
          show _ ∧ _
          rw [List.length_append]
          unfold maxLen; omega
        simp only [chC_nil] at HCH HN HO HS
        go_wp2_with (first
          | (go_at_call 20; (with_reducible refine (HPS.out _).mono ?_); rintro e w1 ⟨rfl, rfl⟩)
          | (go_at_call 22; (with_reducible refine (HCH.out _).mono ?_); rintro e w2 ⟨rfl, u2⟩; have HX := Lib.hid ((HL.out.grow u2).grow ((Upd.refl noBlock w2).alloc (.cells #[.int .i64 nm, .int .i64 3, .string ⟨#[]⟩, .int .i64 (P + (k : Int)), .string ⟨#[]⟩, .bool true] 42))); have HNN := Lib.hid (HN.out w2); have hbz := (HL.out.up.trans (u2.alloc (.cells #[.int .i64 nm, .int .i64 3, .string ⟨#[]⟩, .int .i64 (P + (k : Int)), .string ⟨#[]⟩, .bool true] 42))).size; clear u2)
          | (at_builtin; refine wpList_append_own _ rfl (.tmp 53) (.tmp 57) 25 rfl w.heap.size 42 i0 z0 6 64 Tryd.underlying25 hi0 hz0 hz1 hz2 hz3 (by decide) y _ _ rfl HX.out.own ⟨w2.heap.size, 0, none⟩ 1 1 _ rfl rfl HNN.out HO.out HB1.out.1 HB1.out.2 hbz ?_; intro v' w3 hO hg h33; clear h33; have HY := Lib.hid (HS.out _ _ _ HX.out hg hO); clear hO hg))
        rw [← HXB.out] at HY
        go_roundw
        case rel => exact ⟨_, k + 1, by omega, rfl, by go_num, HY⟩
        case measure => simp [intOf] <;> omega
      · obtain rfl : k = n := by omega
        have t1 : ¬ P + (k : Int) < Q := by have := HQN.out; omega
        go_wp2_with (first | (go_at_call 20; (with_reducible refine (HPS.out _).mono ?_); rintro e w1 ⟨rfl, rfl⟩))
        go_ret
        exact ⟨_, rfl, HL.out⟩
  · have eA : ctA x q = [] := if_neg hr
    have hr0 : x % 64 = 0 := by omega
    obtain ⟨A, hA⟩ : ∃ A, ctA x q = A := ⟨_, rfl⟩
    rw [hA] at HCL eA ⊢
    have ST : Hid (Chs w w nm (.slice none 0 0) (A ++ ctB x 0)) := by rw [eA]; exact Chs.nil w nm
    clear eA hr hA
    go_enter Tryd.func12, Tryd.ntmps12
    go_wp2_with (first | (go_at_call 20; (with_reducible refine (HPX.out _).mono ?_); rintro e w1 ⟨rfl, rfl⟩))
    go_loopw [9, 13] (fun v i wr => ∃ (y : Value) (k : Nat), k ≤ n ∧ y = v ∧ i = .int .i64 (P + (k : Int)) ∧ Hid (Chs w wr nm y (A ++ ctB x k))) (fun _ i _ => (P + (n : Int) - intOf i).toNat)
    case atStart => exact ⟨_, 0, Nat.zero_le _, rfl, by simp, ST⟩
    case round =>
      clear ST
      obtain ⟨y, k, hk, rfl, rfl, HL⟩ := hrel
      by_cases k0 : k < n
      · have t1 : P + (k : Int) < Q := by have := HQN.out; omega
        have HCH := Lib.hid (fun W => changeOf_nil nm (P + (k : Int)) W)
        have HN := Lib.hid (fun W => HOWN.out W (P + (k : Int)))
        have HO := Lib.hid (chs_one nm (P + (k : Int)) [])
        have HS := Lib.hid (fun w1 w2 v' (h : Chs w w1 nm y (A ++ ctB x k)) hg ho => Chs.snoc (w2 := w2) (v' := v') (P + (k : Int), []) h hg ho)
        have HXB : Hid (A ++ ctB x (k + 1) = A ++ ctB x k ++ [(P + (k : Int), [])]) := by show _ = _; rw [HB.out k, List.append_assoc]
        have HB1 : Hid ((A ++ ctB x k).length + 1 ≤ maxLen ∧ ((A ++ ctB x k).length + 1) * 64 ≤ 140737488355328) := by
          have := HCB.out k
          have := HCL.out
          show _ ∧ _
          rw [List.length_append]
          unfold maxLen; omega
        simp only [chC_nil] at HCH HN HO HS
        go_wp2_with (first
          | (go_at_call 20; (with_reducible refine (HPS.out _).mono ?_); rintro e w1 ⟨rfl, rfl⟩)
          | (go_at_call 22; (with_reducible refine (HCH.out _).mono ?_); rintro e w2 ⟨rfl, u2⟩; have HX := Lib.hid ((HL.out.grow u2).grow ((Upd.refl noBlock w2).alloc (.cells #[.int .i64 nm, .int .i64 3, .string ⟨#[]⟩, .int .i64 (P + (k : Int)), .string ⟨#[]⟩, .bool true] 42))); have HNN := Lib.hid (HN.out w2); have hbz := (HL.out.up.trans (u2.alloc (.cells #[.int .i64 nm, .int .i64 3, .string ⟨#[]⟩, .int .i64 (P + (k : Int)), .string ⟨#[]⟩, .bool true] 42))).size; clear u2)
          | (at_builtin; refine wpList_append_own _ rfl (.tmp 53) (.tmp 57) 25 rfl w.heap.size 42 i0 z0 6 64 Tryd.underlying25 hi0 hz0 hz1 hz2 hz3 (by decide) y _ _ rfl HX.out.own ⟨w2.heap.size, 0, none⟩ 1 1 _ rfl rfl HNN.out HO.out HB1.out.1 HB1.out.2 hbz ?_; intro v' w3 hO hg h33; clear h33; have HY := Lib.hid (HS.out _ _ _ HX.out hg hO); clear hO hg))
        rw [← HXB.out] at HY
        go_roundw
        case rel => exact ⟨_, k + 1, by omega, rfl, by go_num, HY⟩
        case measure => simp [intOf] <;> omega
      · obtain rfl : k = n := by omega
        have t1 : ¬ P + (k : Int) < Q := by have := HQN.out; omega
        go_wp2_with (first | (go_at_call 20; (with_reducible refine (HPS.out _).mono ?_); rintro e w1 ⟨rfl, rfl⟩))
        go_ret
        exact ⟨_, rfl, HL.out⟩
end Go.Proofs.YtcfilepilgjlaaaDoor
