/- NodeRow. -/
import Derived.Test.YthlheamnfjjamaaDoorWi
import Derived.Test.YthlheamnfjjamaaDoorSt
import Derived.Test.YthlheamnfjjamaaDoorUq
import Derived.Laws.Concat
namespace Go.Proofs.YthlheamnfjjamaaDoor
open Go.RowKit Cm
attribute [local irreducible] beZ valN Cm.shs Cm.nxt Cm.reg Cm.ext
attribute [local go_sem ↓] Go.wp_at_zero Go.wp_at_succ
set_option linter.unusedVariables false

theorem strq_back (q : ByteArray) : (⟨q.data.toList.toArray⟩ : ByteArray) = q := by apply ByteArray.ext; simp
theorem app_mk (a b : List UInt8) : (ByteArray.mk a.toArray) ++ (ByteArray.mk b.toArray) = ByteArray.mk (a ++ b).toArray := cat_bytes a b
/-- what the loops keep: T is the row of m keys' nodes -/
def RowOf (T : ByteArray) (m : Nat) : Prop := ∃ F : List (List UInt8), F.all okK = true ∧ F.length = m ∧ T = ⟨(rowT 0 F).toArray⟩
theorem RowOf.size {T : ByteArray} {m : Nat} (h : RowOf T m) : T.size ≤ 145 * m := by
  obtain ⟨F, h1, rfl, rfl⟩ := h
  exact rowT_length 0 F h1
theorem RowOf.start : RowOf ⟨#[]⟩ 0 := ⟨[], rfl, rfl, rfl⟩
theorem RowOf.more {T q : ByteArray} {m : Nat} (h : RowOf T m) (h1 : 1 ≤ q.size) (h2 : q.size ≤ 64) : RowOf (T ++ ⟨(encR m q.data.toList).toArray⟩) (m + 1) := by
  obtain ⟨F, k1, rfl, rfl⟩ := h
  refine ⟨F ++ [q.data.toList], ?_, by rw [List.length_append]; rfl, by rw [app_mk, rowT_snoc]⟩
  rw [List.all_append, k1, Bool.true_and, List.all_cons, List.all_nil, Bool.and_true]
  exact (okK_iff _).2 ⟨h1, h2⟩
/-- a row with noughts behind: where each node stands, and what is read there -/
theorem RowOf.reads {T : ByteArray} {m : Nat} (h : RowOf T m) (hm : m ≤ 1048576) (c : Nat) (hc : c ≤ 99) (Z : ByteArray) (hZ : Z = T ++ ⟨(List.replicate c 0).toArray⟩) :
    ∃ (o : Nat → Nat) (K : Nat → ByteArray), o 0 = 0 ∧ (∀ i, i < m → o i < o (i + 1) ∧ o (i + 1) ≤ 1000000000) ∧
      (∀ i, i < m → ∀ W, Tab W → Calls Tryd.prog 15 #[.string Z, .int .i64 (o i : Int)] W fun e w' => e = .returned (.tuple #[.agg #[.int .i64 (i : Int), .bool false, .bool false, .string (K i), .string (K i)], .int .i64 (o (i + 1) : Int), .int .i64 0]) ∧ Upd noBlock W w') ∧
      (∀ W, Tab W → Calls Tryd.prog 15 #[.string Z, .int .i64 (o m : Int)] W fun e w' => e = .returned (.tuple #[.agg #[.int .i64 0, .bool false, .bool false, .string ⟨#[]⟩, .string ⟨#[]⟩], .int .i64 0, .int .i64 3]) ∧ Upd noBlock W w') := by
  have hs := h.size
  obtain ⟨F, k1, rfl, rfl⟩ := h
  have hs' : (rowT 0 F).length ≤ 145 * F.length := hs
  rw [app_mk] at hZ
  subst hZ
  have hlen : ∀ i, (rowT 0 (F.take i)).length ≤ (rowT 0 F).length := fun i => by
    have e : F = F.take i ++ F.drop i := (List.take_append_drop i F).symm
    conv => rhs; rw [e]
    rw [rowT_app, List.length_append]; omega
  refine ⟨fun i => (rowT 0 (F.take i)).length, fun i => ⟨(F.getD i []).toArray⟩, rfl, fun i hi => ⟨?_, ?_⟩, fun i hi W hW => ?_, fun W hW => ?_⟩
  · show (rowT 0 (F.take i)).length < (rowT 0 (F.take (i + 1))).length
    rw [rowT_next F i hi, encR_length]; omega
  · have := hlen (i + 1); show (rowT 0 (F.take (i + 1))).length ≤ _; omega
  · have hk : okK F[i] = true := List.all_eq_true.1 k1 _ (List.getElem_mem hi)
    have hx := Decode_enc (rowT 0 (F.take i)) (rowT (i + 1) (F.drop (i + 1)) ++ List.replicate c 0) (i : Int) false false F[i] F[i] W (goodN_row i F[i] (by omega) hk) (by
      have h1 := congrArg List.length (rowT_at F i hi)
      rw [List.length_append, List.length_append] at h1
      rw [List.length_append, List.length_replicate]
      omega) hW
    have e1 : rowT 0 (F.take i) ++ (sealed (rawN (i : Int) false false F[i] F[i]) ++ (rowT (i + 1) (F.drop (i + 1)) ++ List.replicate c 0)) = rowT 0 F ++ List.replicate c 0 := by
      conv => rhs; rw [rowT_at F i hi]
      rw [List.append_assoc, List.append_assoc]; rfl
    rw [e1] at hx
    have e2 : F.getD i [] = F[i] := by rw [List.getD_eq_getElem?_getD, List.getElem?_eq_getElem hi]; rfl
    have e3 : (((rowT 0 (F.take (i + 1))).length : Nat) : Int) = ((rowT 0 (F.take i)).length : Int) + ((sealed (rawN (i : Int) false false F[i] F[i])).length : Int) := by
      rw [rowT_next F i hi]; rfl
    show Calls _ _ _ _ fun e w' => e = .returned (.tuple #[.agg #[_, _, _, .string ⟨(F.getD i []).toArray⟩, .string ⟨(F.getD i []).toArray⟩], .int .i64 (((rowT 0 (F.take (i + 1))).length : Nat) : Int), _]) ∧ _
    rw [e2, e3]
    exact hx
  · have hx := decode_any (rowT 0 F ++ List.replicate c 0) ((rowT 0 F).length : Int) W (by rw [List.length_append, List.length_replicate]; omega) hW
    rw [decP_noughts] at hx
    show Calls _ _ #[_, .int .i64 (((rowT 0 (F.take F.length)).length : Nat) : Int)] _ _
    rw [List.take_length]
    exact hx
set_option maxRecDepth 20000 in
set_option maxHeartbeats 6400000 in
theorem nodeRow_upd (a : Option Addr) (n c : Nat) (Ss : List ByteArray) (N : Int) (w : World) (hr : Strs w w.heap.size a n Ss) (hn : n ≤ 1048576) (hT : Tab w) :
    Calls Tryd.prog 7 #[.slice a n c, .int .i64 N] w fun e w' => e = .returned (.bool true) ∧ Upd noBlock w w' := by
  have HT : Hid (∀ W, Upd noBlock w W → Tab W) := fun W h => hT.upd h
  have HSP := Lib.hid (fun W hW => speaks_any W hW)
  have HS := Lib.hid hr
  have HE : Hid (∀ (m : Nat) (q : ByteArray), m ≤ 1048576 → 1 ≤ q.size → q.size ≤ 64 → ∀ W, Tab W → Calls Tryd.prog 12 #[.agg #[.int .i64 (m : Int), .bool false, .bool false, .string q, .string q]] W fun e w' => e = .returned (.tuple #[.string ⟨(encR m q.data.toList).toArray⟩, .bool true]) ∧ Upd noBlock W w') := fun m q hm h1 h2 W hW => by
    have hk : okK q.data.toList = true := (okK_iff _).2 ⟨h1, h2⟩
    have hg := goodN_row m q.data.toList (by omega) hk
    have := encodeN_any (m : Int) false false q.data.toList q.data.toList W (by show q.size ≤ _; unfold maxLen; omega) (by show q.size ≤ _; unfold maxLen; omega) hW
    unfold encN at this
    rw [hg, if_pos rfl, strq_back] at this
    exact this
  have HEL : Hid (∀ (m : Nat) (q : ByteArray), (⟨(encR m q.data.toList).toArray⟩ : ByteArray).size = 17 + 2 * q.size) := fun m q => encR_length m q.data.toList
  have U0 : Hid (Upd noBlock w w) := Upd.refl _ _
  clear hr hT
  go_enter Tryd.func7, Tryd.ntmps7
  go_wp2_with (go_at_call 11; (with_reducible refine (HSP.out _ (HT.out _ U0.out)).mono ?_); rintro e w1 ⟨rfl, h⟩; have HX := Lib.hid h; clear h)
  clear U0 HSP
  go_loopw [5, 6, 7] (fun vt vm vi wr => ∃ (k m : Nat) (T : ByteArray), k ≤ n ∧ m ≤ k ∧ vt = .string T ∧ vm = .int .i64 (m : Int) ∧ vi = .int .i64 (k : Int) ∧ Hid (RowOf T m) ∧ Hid (Upd noBlock w wr)) (fun _ _ i _ => n - (intOf i).toNat)
  case atStart => exact ⟨0, 0, ⟨#[]⟩, Nat.zero_le _, Nat.le_refl _, rfl, rfl, rfl, RowOf.start, HX⟩
  case round =>
    clear HX
    obtain ⟨k, m, T, hk, hm, rfl, rfl, rfl, HR, HX⟩ := hrel
    have hTs : T.size ≤ 145 * m := HR.out.size
    by_cases h0 : k < n
    · have HSr := Lib.hid (HS.out.grow HX.out (Nat.le_refl _))
      obtain ⟨b, off, hab, hb, hc⟩ := HSr.out.cell (by omega)
      subst hab
      have hsz := HSr.out.at h0
      have c1 := hc k h0
      generalize Ss.getD k ⟨#[]⟩ = q at *
      have hq9 : q.size ≤ 9223372036854775807 := hsz
      have HXD : Hid (Upd noBlock w wr.drew) := HX.out.drew
      clear hc hsz HSr
      by_cases g1 : q.size < 1
      · have g1' : (q.size : Int) < 1 := by omega
        go_wp2_with fail
        go_roundw
        case rel => exact ⟨k + 1, m, T, by omega, by omega, rfl, rfl, by go_num, HR, HX⟩
        case measure => simp [intOf]; omega
      · have g1' : ¬ (q.size : Int) < 1 := by omega
        by_cases g2 : 64 < q.size
        · have g2' : (64 : Int) < (q.size : Int) := by omega
          go_wp2_with fail
          go_roundw
          case rel => exact ⟨k + 1, m, T, by omega, by omega, rfl, rfl, by go_num, HR, HX⟩
          case measure => simp [intOf]; omega
        · have g2' : ¬ (64 : Int) < (q.size : Int) := by omega
          have HE2 := Lib.hid (HE.out m q (by omega) (by omega) (by omega))
          have HR2 : Hid (RowOf (T ++ ⟨(encR m q.data.toList).toArray⟩) (m + 1)) := HR.out.more (by omega) (by omega)
          have hqe : (⟨(encR m q.data.toList).toArray⟩ : ByteArray).size = 17 + 2 * q.size := HEL.out m q
          obtain ⟨qe, hqq⟩ : ∃ q' : ByteArray, ⟨(encR m q.data.toList).toArray⟩ = q' := ⟨_, rfl⟩
          rw [hqq] at HE2 HR2 hqe
          clear hqq
          have hcat : ¬ 9223372036854775807 < T.size + qe.size := by omega
          go_wp2_with fail
          go_region_with (go_at_call 12; (with_reducible refine (HE2.out _ (HT.out _ HXD.out)).mono ?_); rintro e w3 ⟨rfl, h⟩; have HY := Lib.hid (HXD.out.trans h); clear h)
          all_goals
            go_wp2_with fail
            go_roundw
            case rel => exact ⟨k + 1, m + 1, T ++ qe, by omega, by omega, rfl, by go_num, by go_num, HR2, HY⟩
            case measure => simp [intOf]; omega
    · obtain rfl : k = n := by omega
      clear HE HEL HS
      go_wp2_with fail
      go_loopw [5, 10] (fun vz vj wq => ∃ (j : Nat) (Z : ByteArray), j ≤ 99 ∧ vj = .int .i64 (j : Int) ∧ vz = .string Z ∧ Hid (Z = T ++ ⟨(List.replicate j 0).toArray⟩) ∧ Hid (wq = wr)) (fun _ j _ => 99 - (intOf j).toNat)
      case atStart => exact ⟨0, T, Nat.zero_le _, rfl, rfl, by show T = T ++ _; apply ByteArray.ext; simp, rfl⟩
      case round =>
        obtain ⟨j, Z, hj, rfl, rfl, HZ, HW⟩ := hrel
        have hzs : Z.size = T.size + j := by
          rw [HZ.out, ByteArray.size_append]
          show _ + (List.replicate j (0 : UInt8)).length = _
          rw [List.length_replicate]
        by_cases hx : (j : Int) < N ∧ j < 99
        · obtain ⟨hx1, hx2⟩ := hx
          have hx2' : (j : Int) < 99 := by omega
          have hcat : ¬ 9223372036854775807 < Z.size + 1 := by omega
          have HZ2 : Hid (Z ++ ⟨#[0]⟩ = T ++ ⟨(List.replicate (j + 1) 0).toArray⟩) := by
            show _ = _
            rw [HZ.out]
            apply ByteArray.ext
            apply Array.ext'
            simp [ByteArray.data_append, List.replicate_succ']
          go_wp2_with fail
          go_roundw
          case rel => exact ⟨j + 1, Z ++ ⟨#[0]⟩, by omega, by go_num, rfl, HZ2, by first | exact HW | exact trivial⟩
          case measure => simp [intOf]; omega
        · obtain ⟨o, K, ho0, hO, hD, hDE⟩ := HR.out.reads (by omega) j hj Z HZ.out
          have hor : ((j : Int) < N ∧ ¬ (j : Int) < 99) ∨ ¬ (j : Int) < N := by omega
          have HO := Lib.hid hO
          have HD := Lib.hid hD
          have HDE := Lib.hid hDE
          clear hO hD hDE HZ hzs hTs HR hx
          have HX2 : Hid (Upd noBlock w wr) := by rw [HW.out]; exact HX.out
          clear HX HW
          rcases hor with ⟨hx1, hx2⟩ | hx1
          all_goals
            go_wp2_with fail
            go_loopw [11, 12] (fun va vi wr => ∃ i : Nat, i ≤ m ∧ va = .int .i64 (o i : Int) ∧ vi = .int .i64 (i : Int) ∧ Hid (Upd noBlock w wr)) (fun _ i _ => m - (intOf i).toNat)
            case atStart => exact ⟨0, Nat.zero_le _, by rw [ho0]; rfl, rfl, HX2⟩
            case round =>
              clear HX2
              obtain ⟨i, hi, rfl, rfl, HX⟩ := hrel
              by_cases h1 : i < m
              · obtain ⟨p1, p2⟩ := HO.out i h1
                have HDI := Lib.hid (HD.out i h1)
                have p3 : ¬ (o (i + 1) : Int) ≤ (o i : Int) := by omega
                generalize K i = q at *
                generalize ho2 : o (i + 1) = o2 at *
                generalize o i = o1 at *
                go_wp2_with (go_at_call 15; (with_reducible refine (HDI.out _ (HT.out _ HX.out)).mono ?_); rintro e w3 ⟨rfl, h⟩; have HY := Lib.hid (HX.out.trans h); clear h)
                go_roundw
                case rel => exact ⟨i + 1, by omega, by rw [ho2], by go_num, HY.out.alloc _⟩
                case measure => simp [intOf]; omega
              · obtain rfl : i = m := by omega
                generalize o i = o1 at *
                go_wp2_with (go_at_call 15; (with_reducible refine (HDE.out _ (HT.out _ HX.out)).mono ?_); rintro e w3 ⟨rfl, h⟩; have HY := Lib.hid (HX.out.trans h); clear h)
                go_ret
                exact ⟨rfl, HY.out.alloc _⟩
theorem nodeRow_walk (a : Option Addr) (n c : Nat) (Ss : List ByteArray) (N : Int) (w : World) (hr : Strs w w.heap.size a n Ss) (hn : n ≤ 1048576) (_ : (Lit.int .i64 N).wf = true) (hT : Tab w) :
    Calls Tryd.prog 7 #[.slice a n c, .int .i64 N] w fun e w' => e = .returned (.bool true) ∧ Below w.heap.size w w' :=
  Calls.mono (nodeRow_upd a n c Ss N w hr hn hT) fun _ _ (h : _ ∧ Upd noBlock w _) => ⟨h.1, h.2.below (fun _ _ h => h)⟩
end Go.Proofs.YthlheamnfjjamaaDoor
