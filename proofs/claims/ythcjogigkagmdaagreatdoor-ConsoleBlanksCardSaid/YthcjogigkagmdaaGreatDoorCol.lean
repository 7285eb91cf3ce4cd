/- number and escaped, off the shelf's contracts. -/
import Derived.Test.YthcjogigkagmdaaGreatDoorCoj
import Derived.Test.YthcjogigkagmdaaGreatDoorCok
import Derived.Test.YthcjogigkagmdaaGreatDoorShelf
import Derived.Lib.ItoaMem
import Derived.Lib.AtoiTie
import Derived.Lib.AppendIntMem
namespace Go.Proofs.YthcjogigkagmdaaGreatDoor
open Go.RowKit Go.Sort
set_option linter.unusedVariables false

theorem upd_grown (w : World) (k : Nat) (os : Array Obj) : Upd noBlock w (grow (w.drewN k) os) := Upd.of_below (Lib.below_grow w.heap.size w (Nat.le_refl _) k os) _
theorem itoa_any (n : Int) (h0 : -9223372036854775808 ≤ n) (h1 : n ≤ 9223372036854775807) (w : World) (hg : Gl w) :
    Calls Tryz.prog 31 #[.int .i64 n] w fun e w' => e = .returned (.string ⟨(Lib.itoa n).toArray⟩) ∧ Upd noBlock w w' :=
  (Tryz.strconv_Itoa n h0 h1 w hg.pow).mono fun _ _ ⟨he, k, os, hw⟩ => ⟨he, by rw [hw]; exact upd_grown w k os⟩
theorem atoi_ok (s : ByteArray) (hs : s.size ≤ 18) (v : Int) (h : Lib.atoi s.data.toList = some v) (w : World) :
    Calls Tryz.prog 103 #[.string s] w fun e w' => e = .returned (.tuple #[.int .i64 v, .nilIface]) ∧ Upd noBlock w w' := by
  have hl : s.data.toList.length = s.size := rfl
  refine (Tryz.strconv_Atoi_ok s (by omega) v (by rw [Lib.atoiAll_short _ (by omega), h]; rfl) w).mono fun e w' ⟨he, hw⟩ => ⟨he, ?_⟩
  rcases hw with rfl | ⟨t, rfl⟩
  · exact Upd.refl _ _
  · exact upd_bytes _ _ _
theorem atoi_bad (s : ByteArray) (hs : s.size ≤ 18) (h : Lib.atoi s.data.toList = none) (w : World) (hg : Gl w) :
    Calls Tryz.prog 103 #[.string s] w fun e w' => ∃ N, e = .returned (.tuple #[.int .i64 0, .iface 209 (.pointer (some ⟨N, 0, none⟩))]) ∧ Upd noBlock w w' := by
  obtain ⟨te, pe, hsy⟩ := hg.syn
  have hl : s.data.toList.length = s.size := rfl
  exact (Tryz.strconv_Atoi_syntax s (by omega) (by rw [Lib.atoiAll_short _ (by omega), h]; rfl) _ w hsy (.inr ⟨te, pe, rfl⟩)).mono fun e w' ⟨N, he, _, _, hb⟩ => ⟨N, he, Upd.of_below hb _⟩
set_option maxRecDepth 20000 in
set_option maxHeartbeats 1600000 in
theorem number_any : NumC := by
  rintro ⟨x, q⟩ w hg hx
  unfold fdV
  have HG := Lib.hid hg
  have HGA := Lib.hid (hg.grow ((Upd.refl noBlock w).alloc (.cells #[.string x, .bool q] 148)))
  have HU0 : Hid (Upd noBlock w (w.alloc (.cells #[.string x, .bool q] 148))) := (Upd.refl _ _).alloc _
  cases q with
  | true =>
    have HF : Hid (Con.numF (x, true) = none) := rfl
    clear hg
    go_enter Tryz.func85, Tryz.ntmps85
    go_wp2
    go_returns
    exact ⟨by rw [HF.out]; rfl, HU0.out⟩
  | false =>
    have HF : Hid (Con.numF (x, false) = Con.progNum x.data.toList) := by
      show Con.numB x.data.toList = _
      rw [Con.progNum_eq]
    have HT := Lib.hid (fun W => Tryz.strings_TrimPrefix x ⟨#[45]⟩ W)
    have htl : (Lib.trimPrefix x.data.toList [45]).length ≤ x.data.toList.length ∧ x.data.toList.length ≤ (Lib.trimPrefix x.data.toList [45]).length + 1 := by
      unfold Lib.trimPrefix
      split
      · rename_i h
        rw [List.length_drop, List.length_singleton]
        have : 1 ≤ x.data.toList.length := by
          cases hx0 : x.data.toList with
          | nil => rw [hx0] at h; exact absurd h (by decide)
          | cons c r => simp
        omega
      · omega
    have hxl : x.data.toList.length = x.size := rfl
    unfold Con.progNum at HF
    obtain ⟨T, hT⟩ : ∃ T : ByteArray, ⟨(Lib.trimPrefix x.data.toList [45]).toArray⟩ = T := ⟨_, rfl⟩
    have hTz : T.size = (Lib.trimPrefix x.data.toList [45]).length := by rw [← hT]; rfl
    have HT2 : Hid (∀ W, Calls Tryz.prog 102 #[.string x, .string ⟨#[45]⟩] W fun e w' => e = .returned (.string T) ∧ w' = W) := by rw [← hT]; exact HT.out
    clear HT hT
    rw [← hTz] at HF htl
    by_cases h9 : 9 < T.size
    · have HR : Hid (Con.numF (x, false) = none) := by show _ = _; rw [HF.out, if_pos h9]
      have h9' : decide ((9 : Int) < (T.size : Int)) = true := decide_eq_true (by omega)
      clear hg HF htl hxl hTz
      go_enter Tryz.func85, Tryz.ntmps85
      go_wp2_with (go_at_call 102; (with_reducible refine (HT2.out _).mono ?_); rintro e w1 ⟨rfl, hw⟩; obtain rfl := hw.symm)
      go_returns
      exact ⟨by rw [HR.out]; rfl, HU0.out⟩
    · have h9' : decide ((9 : Int) < (T.size : Int)) = false := decide_eq_false (by omega)
      have hx18 : x.size ≤ 18 := by omega
      rw [if_neg h9] at HF
      have HBX : Hid (∀ W, Upd noBlock (w.alloc (.cells #[.string x, .bool false] 148)) W → W.heap[w.heap.size]? = some (.cells #[.string x, .bool false] 148 (0, 0))) := fun W h => h.cells (heap_alloc_new w _) (fun h => h)
      cases ha : Lib.atoi x.data.toList with
      | none =>
        have HR : Hid (Con.numF (x, false) = none) := by show _ = _; rw [HF.out, ha]
        have HA := Lib.hid (atoi_bad x hx18 ha _ HGA.out)
        clear hg HF htl hxl hTz ha h9
        go_enter Tryz.func85, Tryz.ntmps85
        go_wp2_with (first
          | (go_at_call 102; (with_reducible refine (HT2.out _).mono ?_); rintro e w1 ⟨rfl, hw⟩; obtain rfl := hw.symm)
          | (go_at_call 103; (with_reducible refine HA.out.mono ?_); rintro e w2 ⟨N, rfl, h2⟩; have U2 := Lib.hid (HU0.out.trans h2); clear h2))
        go_region
        go_wp2
        go_returns
        exact ⟨by rw [HR.out]; rfl, U2.out.drew⟩
      | some n =>
        have HR : Hid (Con.numF (x, false) = if Lib.itoa n = x.data.toList then some n else none) := by show _ = _; rw [HF.out, ha]
        have HA := Lib.hid (atoi_ok x hx18 n ha (w.alloc (.cells #[.string x, .bool false] 148)))
        have hb := Lib.atoiAll_bounds (l := x.data.toList) (v := n) (by rw [Lib.atoiAll_short _ (by omega), ha]; rfl)
        obtain ⟨I, hI⟩ : ∃ I : ByteArray, ⟨(Lib.itoa n).toArray⟩ = I := ⟨_, rfl⟩
        have hId : I.data.toList = Lib.itoa n := by rw [← hI]
        have HIT : Hid (∀ W, Gl W → Calls Tryz.prog 31 #[.int .i64 n] W fun e w' => e = .returned (.string I) ∧ Upd noBlock W w') := by rw [← hI]; exact fun W h => itoa_any n hb.1 hb.2 W h
        rw [← hId] at HR
        clear hg HF htl hxl hTz ha h9 hb hI hId
        go_enter Tryz.func85, Tryz.ntmps85
        go_wp2_with (first
          | (go_at_call 102; (with_reducible refine (HT2.out _).mono ?_); rintro e w1 ⟨rfl, hw⟩; obtain rfl := hw.symm)
          | (go_at_call 103; (with_reducible refine HA.out.mono ?_); rintro e w2 ⟨rfl, h2⟩; have U2 := Lib.hid (HU0.out.trans h2); have B2 := Lib.hid (HBX.out _ h2); have G2 := Lib.hid (HGA.out.grow h2); clear h2))
        have c2 := cell_of B2.out 0
        have GD : Hid (Gl w2.drew) := G2.out.grow (Upd.refl _ _).drew
        by_cases he : I.data.toList = x.data.toList
        · rw [if_pos he] at HR
          have z1 : (I.toList == x.toList) = true := by rw [Lib.toList_data, Lib.toList_data, he]; exact beq_self_eq_true _
          have z2 : (I.toList != x.toList) = false := by rw [bne, z1]; rfl
          clear he
          go_region_with (go_at_call 31; (with_reducible refine (HIT.out _ GD.out).mono ?_); rintro e w3 ⟨rfl, h3⟩; have U3 : Hid (Upd noBlock w w3) := (U2.out.drew).trans h3; have c3 : w3.cell? ⟨w.heap.size, 0, none⟩ = some (.string x) := cell_of (h3.cells (w := w3) (a := w2.drew) B2.out (fun h => h)) 0; clear h3)
          all_goals
            go_wp2
            go_returns
            exact ⟨by rw [HR.out]; rfl, U3.out⟩
        · rw [if_neg he] at HR
          have z1 : (I.toList == x.toList) = false := by rw [Lib.toList_data, Lib.toList_data, beq_eq_false_iff_ne]; exact he
          have z2 : (I.toList != x.toList) = true := by rw [bne, z1]; rfl
          clear he
          go_region_with (go_at_call 31; (with_reducible refine (HIT.out _ GD.out).mono ?_); rintro e w3 ⟨rfl, h3⟩; have U3 : Hid (Upd noBlock w w3) := (U2.out.drew).trans h3; have c3 : w3.cell? ⟨w.heap.size, 0, none⟩ = some (.string x) := cell_of (h3.cells (w := w3) (a := w2.drew) B2.out (fun h => h)) 0; clear h3)
          all_goals
            go_wp2
            go_returns
            exact ⟨by rw [HR.out]; rfl, U3.out⟩
theorem hex_idx : ∀ c : Fin 256, Lib.indexByte [48, 49, 50, 51, 52, 53, 54, 55, 56, 57, 65, 66, 67, 68, 69, 70] (UInt8.ofNat c.val) = match Con.hexV (UInt8.ofNat c.val) with | some d => (d : Int) | none => -1 := by decide +kernel
def hexI (c : UInt8) : Int := match Con.hexV c with | some d => (d : Int) | none => -1
theorem hex_any (c : UInt8) (w : World) : Calls Tryz.prog 107 #[.string ⟨#[48, 49, 50, 51, 52, 53, 54, 55, 56, 57, 65, 66, 67, 68, 69, 70]⟩, .int .u8 (c.toNat : Int)] w fun e w' => e = .returned (.int .i64 (hexI c)) ∧ w = w' := by
  refine (Tryz.strings_IndexByte ⟨#[48, 49, 50, 51, 52, 53, 54, 55, 56, 57, 65, 66, 67, 68, 69, 70]⟩ (c.toNat : Int) w).mono fun e w' ⟨he, hw⟩ => ⟨?_, hw.symm⟩
  rw [he]
  have h := hex_idx ⟨c.toNat, c.toNat_lt⟩
  have e1 : UInt8.ofNat c.toNat = c := by simp
  have e2 : ((c.toNat : Int).toNat).toUInt8 = c := by rw [Int.toNat_natCast]; exact e1
  rw [e1] at h
  rw [e2, ← (show hexI c = _ from rfl)] 
  exact congrArg _ (congrArg _ h)
theorem hexV_lt {c : UInt8} {d : Nat} (h : Con.hexV c = some d) : d < 16 := by
  unfold Con.hexV at h
  split at h
  · cases h; omega
  split at h
  · cases h; omega
  · cases h
theorem quiet_eqC {P : Program} {f : FuncId} {args : Array Value} {w : World} {n : Nat} {v : Value}
    (h : ∀ w : World, Calls P f args w fun e w' => e = .returned v ∧ w = w') : Calls P f args (w.drewN n) fun e w'' => e = .returned v ∧ ∃ m, w'' = w.drewN m :=
  (h _).mono fun _ _ ⟨a, b⟩ => ⟨a, n, b.symm⟩
def byteOf (d e : Nat) : Nat := 16 * d + e
theorem shl_or : ∀ d e : Fin 16, (BitVec.ofNat 64 (d.val * 16) ||| BitVec.ofNat 64 e.val).toNat = 16 * d.val + e.val := by decide +kernel
theorem or_hex (d e : Nat) (hd : d < 16) (he : e < 16) : bits .or .i64 ((d * 16 : Nat) : Int) (e : Int) = ((16 * d + e : Nat) : Int) := by
  rw [i64_or_nat _ _ (by omega) (by omega)]
  congr 1
  have h : ∀ d e : Fin 16, (d.val * 16) ||| e.val = 16 * d.val + e.val := by decide +kernel
  exact h ⟨d, hd⟩ ⟨e, he⟩
set_option maxRecDepth 20000 in
set_option maxHeartbeats 1600000 in
theorem escaped_any : EscC := by
  intro q w hh hq
  have hl : q.data.toList.length = q.size := rfl
  have hb : ∀ (i : Nat) (h : i < q.size), q.data.toList.getD i 0 = q[i]'h := fun i h => by
    rw [List.getD_eq_getElem?_getD, Array.getElem?_toList, Array.getElem?_eq_getElem h]; rfl
  unfold maxLen at hq
  have HE : Hid (Con.escL q.data.toList = if (decide (1 < q.size) && Con.markB (q.data.toList.getD 1 0)) = true then (q.data.toList.getD 1 0, 2) else if (decide (q.size < 4) || q.data.toList.getD 1 0 != 120) = true then (0, 0) else Con.hex2 (Con.hexV (q.data.toList.getD 2 0)) (Con.hexV (q.data.toList.getD 3 0))) := rfl
  generalize Con.escL q.data.toList = E at *
  by_cases h1 : 1 < q.size
  · have h1' : decide ((1 : Int) < (q.size : Int)) = true := decide_eq_true (by omega)
    have HM := Lib.hid (isMark_any (q[1]'h1))
    rw [hb 1 h1, decide_eq_true h1, Bool.true_and] at HE
    obtain ⟨c, hc⟩ : ∃ c, q[1]'h1 = c := ⟨_, rfl⟩
    rw [hc] at HM HE
    cases hm : Con.markB c with
    | true =>
      rw [hm] at HM HE
      rw [if_pos rfl] at HE
      clear hm hb hl hh
      go_enter Tryz.func98, Tryz.ntmps98
      go_wp2_with (go_at_call 59; (with_reducible refine (HM.out _).mono ?_); rintro e w1 ⟨rfl, rfl⟩)
      go_returns
      exact ⟨by rw [HE.out]; rfl, Upd.refl _ _⟩
    | false =>
      rw [hm] at HM HE
      rw [if_neg (by decide)] at HE
      clear hm
      by_cases h4 : q.size < 4
      · have h4' : decide ((q.size : Int) < 4) = true := decide_eq_true (by omega)
        rw [decide_eq_true h4, Bool.true_or, if_pos rfl] at HE
        clear hb hl hh
        go_enter Tryz.func98, Tryz.ntmps98
        go_wp2_with (go_at_call 59; (with_reducible refine (HM.out _).mono ?_); rintro e w1 ⟨rfl, rfl⟩)
        go_returns
        exact ⟨by rw [HE.out]; rfl, Upd.refl _ _⟩
      · have h4' : decide ((q.size : Int) < 4) = false := decide_eq_false (by omega)
        rw [decide_eq_false h4, Bool.false_or] at HE
        by_cases hx : c = 120
        · have ex : ((c.toNat : Int) != 120) = false := by rw [hx]; rfl
          rw [if_neg (by rw [hx]; decide), hb 2 (by omega), hb 3 (by omega)] at HE
          have h2 : 2 < q.size := by omega
          have h3 : 3 < q.size := by omega
          have HX2 := Lib.hid (hex_any (q[2]'h2))
          have HX3 := Lib.hid (hex_any (q[3]'h3))
          obtain ⟨x, hx2⟩ : ∃ x, q[2]'h2 = x := ⟨_, rfl⟩
          obtain ⟨y, hy3⟩ : ∃ y, q[3]'h3 = y := ⟨_, rfl⟩
          rw [hx2] at HX2 HE
          rw [hy3] at HX3 HE
          unfold hexI at HX2 HX3
          have hi2 : (2 : Int) < q.size := by omega
          have hi3 : (3 : Int) < q.size := by omega
          clear hb hl hh hx
          cases hxv : Con.hexV x with
          | none =>
            rw [hxv] at HX2 HE
            obtain ⟨yv, hyv⟩ : ∃ yv, hexI y = yv := ⟨_, rfl⟩
            unfold hexI at hyv
            rw [hyv] at HX3
            have HE2 : Hid (E = (0, 0)) := by show _ = _; rw [HE.out]; rfl
            clear hxv hyv HE
            go_enter Tryz.func98, Tryz.ntmps98
            go_wp2_with (go_at_call 59; (with_reducible refine (HM.out _).mono ?_); rintro e w1 ⟨rfl, rfl⟩)
            go_quiet (first | (go_at_call 107; with_reducible exact quiet_eqC HX2.out) | (go_at_call 107; with_reducible exact quiet_eqC HX3.out))
            go_wp2
            go_returns
            exact ⟨by rw [HE2.out]; rfl, (Upd.refl _ _).drewN _⟩
          | some d =>
            have hd16 := hexV_lt hxv
            rw [hxv] at HX2 HE
            cases hyv : Con.hexV y with
            | none =>
              rw [hyv] at HX3 HE
              have HE2 : Hid (E = (0, 0)) := by show _ = _; rw [HE.out]; rfl
              clear hxv hyv HE
              go_enter Tryz.func98, Tryz.ntmps98
              go_wp2_with (go_at_call 59; (with_reducible refine (HM.out _).mono ?_); rintro e w1 ⟨rfl, rfl⟩)
              go_quiet (first | (go_at_call 107; with_reducible exact quiet_eqC HX2.out) | (go_at_call 107; with_reducible exact quiet_eqC HX3.out))
              go_wp2
              go_returns
              exact ⟨by rw [HE2.out]; rfl, (Upd.refl _ _).drewN _⟩
            | some e =>
              have he16 := hexV_lt hyv
              rw [hyv] at HX3 HE
              have HE2 : Hid (E = (UInt8.ofNat (16 * d + e), 4)) := by show _ = _; rw [HE.out]; rfl
              have hor := or_hex d e hd16 he16
              have HB : Hid (((UInt8.ofNat (16 * d + e)).toNat : Int) = ((16 * d + e : Nat) : Int)) := by show _ = _; simp; omega
              obtain ⟨b, hbb⟩ : ∃ b : Nat, 16 * d + e = b := ⟨_, rfl⟩
              have hb256 : b < 256 := by omega
              rw [hbb] at hor HE2 HB
              have HV : Hid (bits .or .i64 ((d : Int) * 16) (e : Int) % 256 = ((UInt8.ofNat b).toNat : Int)) := by
                have h9 : ((d * 16 : Nat) : Int) = (d : Int) * 16 := by omega
                show _ = _
                rw [← h9, hor, HB.out]; omega
              clear hxv hyv HE hbb hor HB
              go_enter Tryz.func98, Tryz.ntmps98
              go_wp2_with (go_at_call 59; (with_reducible refine (HM.out _).mono ?_); rintro e w1 ⟨rfl, rfl⟩)
              go_quiet (first | (go_at_call 107; with_reducible exact quiet_eqC HX2.out) | (go_at_call 107; with_reducible exact quiet_eqC HX3.out))
              go_wp2
              go_returns
              refine ⟨?_, (Upd.refl _ _).drewN _⟩
              show Ending.returned (.tuple #[.int .u8 (bits .or .i64 ((d : Int) * 16) (e : Int) % 256), .int .i64 4]) = _
              rw [HV.out, HE2.out]; rfl
        · have ex : ((c.toNat : Int) != 120) = true := by have := u8n hx; rw [bne_iff_ne]; exact this
          rw [if_pos (by simpa using hx)] at HE
          clear hb hl hh hx
          go_enter Tryz.func98, Tryz.ntmps98
          go_wp2_with (go_at_call 59; (with_reducible refine (HM.out _).mono ?_); rintro e w1 ⟨rfl, rfl⟩)
          go_returns
          exact ⟨by rw [HE.out]; rfl, Upd.refl _ _⟩
  · have h1' : decide ((1 : Int) < (q.size : Int)) = false := decide_eq_false (by omega)
    have h4' : decide ((q.size : Int) < 4) = true := decide_eq_true (by omega)
    rw [decide_eq_false h1, Bool.false_and, if_neg (by decide), decide_eq_true (by omega : q.size < 4), Bool.true_or, if_pos rfl] at HE
    clear hb hl hh
    go_enter Tryz.func98, Tryz.ntmps98
    go_wp2
    go_returns
    exact ⟨by rw [HE.out]; rfl, Upd.refl _ _⟩
end Go.Proofs.YthcjogigkagmdaaGreatDoor
