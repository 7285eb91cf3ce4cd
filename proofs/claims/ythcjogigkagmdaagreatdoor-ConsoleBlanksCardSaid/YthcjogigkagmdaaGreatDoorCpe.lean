/- showAct. -/
import Derived.Test.YthcjogigkagmdaaGreatDoorCpd
import Derived.Test.YthcjogigkagmdaaGreatDoorCoy
namespace Go.Proofs.YthcjogigkagmdaaGreatDoor
open Go.RowKit
set_option linter.unusedVariables false

def fdB (a : Con.A6) (c : UInt8) : ByteArray := ⟨(Con.showFd a c).toArray⟩
theorem act_line (a : Con.A6) (k : Nat) (hk : a.kind = (k : Int)) (h : 1 ≤ k ∧ k ≤ 22) : lineB (⟨(Con.wordK k).toArray⟩ :: (Con.letters k).map (fdB a)) = Con.showA a := by
  unfold lineB Con.showA Con.showP
  rw [hk, if_pos (by simp; omega)]
  simp only [List.map_cons, List.map_map]
  rfl
/-- an act's texts and numbers in their bounds -/
structure BndA (a : Con.A6) : Prop where
  p : a.path.size ≤ 1099511627776
  d : a.dest.size ≤ 1099511627776
  t : a.data.size ≤ 1099511627776
  o : -9223372036854775808 ≤ a.off ∧ a.off ≤ 9223372036854775807
  s : -9223372036854775808 ≤ a.size ∧ a.size ≤ 9223372036854775807
theorem letB_len (k : Nat) (h : k ≤ 22) : (Con.letters k).length ≤ 3 := by
  have : ∀ n : Fin 23, (Con.letters n.val).length ≤ 3 := by decide
  exact this ⟨k, by omega⟩
/-- what holds ahead of each round -/
structure SaJ (wb wr : World) (a : Con.A6) (k : Nat) (j : Nat) (v : Value) : Prop where
  own : StrR wr wb.heap.size v (⟨(Con.wordK k).toArray⟩ :: ((Con.letters k).take j).map (fdB a))
  up : Upd noBlock wb wr
set_option maxRecDepth 100000 in
set_option maxHeartbeats 1600000 in
theorem showAct_any (a : Con.A6) (k : Nat) (w : World) (hg : Gl w) (hk : a.kind = (k : Int)) (h1 : 1 ≤ k) (h22 : k ≤ 22) (ha : BndA a) (hl : (Con.showA a).length ≤ 140737488355328) :
    Calls Tryz.prog 26 #[.agg (actC a)] w fun e w' => e = .returned (.string ⟨(Con.showA a).toArray⟩) ∧ Upd noBlock w w' := by
  obtain ⟨i0, hi0, hz0, hz1, hz2⟩ := strParts
  obtain ⟨t0, z0, hc⟩ := hg.cmds
  obtain ⟨q1, q2⟩ := cmd_at (k := k) (by omega)
  have hc1 : ∀ o, (w.alloc o).cell? ⟨1, k * 2, none⟩ = some (.string ⟨(Con.wordK k).toArray⟩) := fun o => by
    rw [cell_of (block_alloc hc o)]; exact q1
  have hc2 : ∀ o, (w.alloc o).cell? ⟨1, k * 2 + 1, none⟩ = some (.string ⟨(Con.letters k).toArray⟩) := fun o => by
    rw [cell_of (block_alloc hc o)]; exact q2
  obtain ⟨W0, hW0⟩ : ∃ W0 : ByteArray, (⟨(Con.wordK k).toArray⟩ : ByteArray) = W0 := ⟨_, rfl⟩
  obtain ⟨Ls, hLs⟩ : ∃ Ls : ByteArray, (⟨(Con.letters k).toArray⟩ : ByteArray) = Ls := ⟨_, rfl⟩
  rw [hW0] at hc1
  rw [hLs] at hc2
  have HW0 := Lib.hid hW0
  have HLs := Lib.hid hLs
  have hk23 : (k : Int) < 23 := by omega
  have hk0 : 0 ≤ (k : Int) := by omega
  have HSA := Lib.hid hl
  obtain ⟨S, hS⟩ : ∃ S, Con.showA a = S := ⟨_, rfl⟩
  have HAL := act_line a k hk ⟨h1, h22⟩
  rw [hS] at HSA HAL ⊢
  have HL := Lib.hid HAL
  obtain ⟨wb, hwb⟩ : ∃ wb, (w.alloc (.cells #[.int .i64 (k : Int), .string a.path, .string a.dest, .string a.data, .int .i64 a.off, .int .i64 a.size] 64)).alloc (.cells #[.string W0, .string Ls] 116) = wb := ⟨_, rfl⟩
  have hbs : wb.heap.size = w.heap.size + 1 + 1 := by rw [← hwb]; simp
  obtain ⟨n1, n2⟩ := two_new w (.cells #[.int .i64 (k : Int), .string a.path, .string a.dest, .string a.data, .int .i64 a.off, .int .i64 a.size] 64) (.cells #[.string W0, .string Ls] 116)
  rw [hwb] at n1 n2
  have HB1 : Hid (wb.heap[w.heap.size]? = some (.cells (actC a) 64 (0, 0))) := by show _ = _; rw [n1]; unfold actC; rw [hk]
  have HB2 := Lib.hid n2
  have hq0 : wb.cell? ⟨w.heap.size + 1, 0, none⟩ = some (.string W0) := cell_of n2 0
  have hq1 : ∀ o, (wb.alloc o).cell? ⟨w.heap.size + 1, 1, none⟩ = some (.string Ls) := fun o => cell_of (block_alloc n2 o) 1
  have UB : Hid (Upd noBlock w wb) := by show Upd _ _ _; rw [← hwb]; exact ((Upd.refl _ _).alloc _).alloc _
  have HSF : Hid (∀ (c : UInt8) W, Upd noBlock wb W → _) := fun c W h => showField_any w.heap.size a c W ((hg.grow UB.out).grow h) (h.cells HB1.out (fun h => h)) ha.p ha.d ha.t ha.o ha.s
  have HK : Hid (SaJ wb (wb.alloc (.cells #[.string W0] 9)) a k 0 (.slice (some ⟨w.heap.size + 1 + 1, 0, none⟩) 1 1)) := by
    have h1 := StrR.first wb W0
    rw [hbs] at h1
    exact ⟨by rw [HW0.out, hbs]; exact h1, (Upd.refl _ _).alloc _⟩
  have HLN : Hid ((Con.letters k).length = Ls.size ∧ Ls.size ≤ 3) := by
    have h1 : (Con.letters k).length = Ls.size := by rw [← HLs.out]; rfl
    exact ⟨h1, by rw [← h1]; exact letB_len k h22⟩
  have HLT : Hid (Ls.data.toList = Con.letters k) := by show _ = _; rw [← HLs.out]
  unfold actC
  rw [hk]
  clear hg ha hk n1 n2
  go_enter Tryz.func26, Tryz.ntmps26
  go_wp2
  go_loopw [4, 16] (fun v i wr => ∃ j : Nat, j ≤ Ls.size ∧ i = .int .i64 (j : Int) ∧ Hid (SaJ wb wr a k j v)) (fun _ i _ => Ls.size - (intOf i).toNat)
  case atStart => exact ⟨0, by omega, rfl, HK⟩
  case round =>
    clear HK
    obtain ⟨j, hj, rfl, HJ⟩ := hrel
    by_cases hlt : j < Ls.size
    · obtain ⟨c, hc⟩ : ∃ c, Ls[j]'hlt = c := ⟨_, rfl⟩
      have hget : (Con.letters k)[j]? = some c := by
        rw [← HLT.out, Array.getElem?_toList, ← hc]; exact Array.getElem?_eq_getElem hlt
      have hl3 := HLN.out.2
      have dj : decide ((j : Int) < (Ls.size : Int)) = true := decide_eq_true (by omega)
      have hwj : IntKind.i64.wrap ((j : Int) + 1) = (j : Int) + 1 := IntWalk.i64_in _ (by omega)
      have HF := Lib.hid (HSF.out c wr HJ.out.up)
      rw [show (⟨(Con.showFd a c).toArray⟩ : ByteArray) = fdB a c from rfl] at HF
      obtain ⟨I, hI⟩ : ∃ I, fdB a c = I := ⟨_, rfl⟩
      rw [hI] at HF
      obtain ⟨L, hL⟩ : ∃ L, (⟨(Con.wordK k).toArray⟩ : ByteArray) :: ((Con.letters k).take j).map (fdB a) = L := ⟨_, rfl⟩
      have HO : Hid (StrR wr wb.heap.size u4 L) := by show StrR _ _ _ _; rw [← hL]; exact HJ.out.own
      have HU : Hid (Upd noBlock wb wr) := HJ.out.up
      have HLL : Hid (L.length ≤ 6) := by show _ ≤ _; rw [← hL, List.length_cons, List.length_map, List.length_take]; omega
      have HN : Hid (∀ v2 w2, StrR w2 wb.heap.size v2 (L ++ [I]) → Upd noBlock wb w2 → SaJ wb w2 a k (j + 1) v2) := fun v2 w2 h1 h2 => ⟨by
        have e : (⟨(Con.wordK k).toArray⟩ : ByteArray) :: ((Con.letters k).take (j + 1)).map (fdB a) = L ++ [I] := by
          rw [List.take_add_one, hget, ← hL, ← hI]; simp
        rw [e]; exact h1, h2⟩
      have HBD : Hid (L.length + 1 ≤ maxLen ∧ (L.length + 1) * 16 ≤ 140737488355328) := by have := HLL.out; show _ ∧ _; unfold maxLen; omega
      have H1 : Hid (∀ u ∈ [Value.string I], u.oneCell' = true) := by intro u hu; simp at hu; subst hu; rfl
      have hcl : wr.cell? ⟨w.heap.size + 1, 1, none⟩ = some (.string Ls) := cell_of (HU.out.cells HB2.out (fun h => h)) 1
      clear hget hI hL HJ HSF
      go_wp2_with (first
        | (go_at_call 42; (with_reducible refine HF.out.mono ?_); rintro e w2 ⟨rfl, hu⟩; have U2 := Lib.hid hu; clear hu)
        | (at_builtin; go_loud (refine wpList_append_vals _ rfl (.tmp 19) (.tmp 25) _ rfl wb.heap.size 9 i0 (.string ⟨#[]⟩) 16 Tryz.underlying52 hi0 hz0 hz1 hz2 rfl u4 L.length (L.map Value.string) rfl ((HO.out.grow U2.out).grow ((Upd.refl _ _).alloc (.cells #[.string I] 9))) (w2.heap.size + 1) (some ⟨w2.heap.size, 0, none⟩) 1 1 [.string I] rfl (Row1.arr w2 9 #[.string I]) H1.out HBD.out.1 HBD.out.2 ((HU.out.trans U2.out).alloc _).size ?_; intro v2 w3 hO hg _; have HQ := Lib.hid (own_moreS HO.out rfl HU.out (U2.out.alloc _) hO hg); clear hO hg)))
      go_roundw
      case rel => exact ⟨j + 1, by omega, by simp, HN.out _ _ HQ.out.1 HQ.out.2⟩
      case measure => simp only [intOf]; omega
    · obtain rfl : j = Ls.size := by omega
      have dj : decide ((Ls.size : Int) < (Ls.size : Int)) = false := decide_eq_false (by omega)
      have htk : (Con.letters k).take Ls.size = Con.letters k := List.take_of_length_le (by rw [HLN.out.1]; exact Nat.le_refl _)
      have HLO := Lib.hid (lineOf_any wb.heap.size u4 _ wr HJ.out.own (by simp) (by have := HLN.out; rw [List.length_cons, List.length_map, List.length_take]; omega) (by rw [htk, HL.out]; exact HSA.out))
      rw [htk, HL.out] at HLO
      have HU : Hid (Upd noBlock wb wr) := HJ.out.up
      clear HJ hlt htk
      go_wp2_with (go_at_call 30; (with_reducible refine HLO.out.mono ?_); rintro e w2 ⟨rfl, hu⟩; have U2 := Lib.hid hu; clear hu)
      go_ret
      exact ⟨rfl, (UB.out.trans HU.out).trans U2.out⟩
end Go.Proofs.YthcjogigkagmdaaGreatDoor
