/- kindOf. -/
import Derived.Test.YthcjogigkagmdaaGreatDoorCoi
namespace Go.Proofs.YthcjogigkagmdaaGreatDoor
open Go.RowKit
set_option linter.unusedVariables false

set_option maxRecDepth 100000 in
theorem idx_cmd (k : Nat) (hk : k < 23) (w : World) : (Instr.index 117 (.agg cmdC) (.int .i64 (k : Int))).run Tryz.prog w = .ok (.agg #[.string ⟨(Con.wordK k).toArray⟩, .string ⟨(Con.letters k).toArray⟩]) w := by
  match k, hk with
  | 0, _ => show _ = _; kernel_rfl
  | 1, _ => show _ = _; kernel_rfl
  | 2, _ => show _ = _; kernel_rfl
  | 3, _ => show _ = _; kernel_rfl
  | 4, _ => show _ = _; kernel_rfl
  | 5, _ => show _ = _; kernel_rfl
  | 6, _ => show _ = _; kernel_rfl
  | 7, _ => show _ = _; kernel_rfl
  | 8, _ => show _ = _; kernel_rfl
  | 9, _ => show _ = _; kernel_rfl
  | 10, _ => show _ = _; kernel_rfl
  | 11, _ => show _ = _; kernel_rfl
  | 12, _ => show _ = _; kernel_rfl
  | 13, _ => show _ = _; kernel_rfl
  | 14, _ => show _ = _; kernel_rfl
  | 15, _ => show _ = _; kernel_rfl
  | 16, _ => show _ = _; kernel_rfl
  | 17, _ => show _ = _; kernel_rfl
  | 18, _ => show _ = _; kernel_rfl
  | 19, _ => show _ = _; kernel_rfl
  | 20, _ => show _ = _; kernel_rfl
  | 21, _ => show _ = _; kernel_rfl
  | 22, _ => show _ = _; kernel_rfl
  | n + 23, h => omega
theorem cmdInfo : (Tryz.prog.info? 117).map (·.size) = some 46 := by kernel_rfl
def kindOut : Option Nat → Value
  | some n => .tuple #[.int .i64 (n : Int), .bool true]
  | none => .tuple #[.int .i64 0, .bool false]
theorem kind_step {a : List UInt8} {k : Nat} (hk : k < 23) : Con.kindAt a k (Con.cmds.drop k) = if a = Con.wordK k then some k else Con.kindAt a (k + 1) (Con.cmds.drop (k + 1)) := by
  have hl : Con.cmds.length = 23 := by decide
  rw [List.drop_eq_getElem_cons (by omega), Con.kindAt]
  have e : (Con.cmds[k]'(by omega)).1 = Con.wordK k := by
    unfold Con.wordK
    rw [List.getD_eq_getElem?_getD, List.getElem?_eq_getElem (by omega)]; rfl
  rw [e]
/-- what holds ahead of each round -/
structure KO (w wr : World) (f : Con.Fd) (k : Nat) : Prop where
  box : wr.heap[w.heap.size]? = some (.cells #[.string f.1, .bool f.2] 148 (0, 0))
  run : f.2 = false → Con.kindF f = Con.kindAt f.1.data.toList k (Con.cmds.drop k)
  up : Upd noBlock w wr
set_option maxRecDepth 100000 in
set_option maxHeartbeats 1600000 in
theorem kindOf_any (f : Con.Fd) (w : World) (hg : Gl w) : Calls Tryz.prog 54 #[fdV f] w fun e w' => e = .returned (kindOut (Con.kindF f)) ∧ Upd noBlock w w' := by
  obtain ⟨f1, f2⟩ := f
  unfold fdV
  obtain ⟨t0, z0, hz⟩ := hg.cmds
  have hz1 := (((Upd.refl noBlock w).alloc (.cells #[.string f1, .bool f2] 148)).cells hz (fun h => h))
  have HZ1 := Lib.hid hz1
  have HCI : Hid ((Tryz.prog.info? 117).map (·.size) = some cmdC.size) := by show _ = _; rw [cmdInfo]; rfl
  have HIX : Hid (∀ k : Nat, k < 23 → ∀ w, (Instr.index 117 (.agg cmdC) (.int .i64 (k : Int))).run Tryz.prog w = .ok (.agg #[.string ⟨(Con.wordK k).toArray⟩, .string ⟨(Con.letters k).toArray⟩]) w) := idx_cmd
  generalize cmdC = C at *
  have HW0 : Hid (Upd noBlock w (w.alloc (.cells #[.string f1, .bool f2] 148)) ∧ (w.alloc (.cells #[.string f1, .bool f2] 148)).heap[w.heap.size]? = some (.cells #[.string f1, .bool f2] 148 (0, 0))) := ⟨(Upd.refl _ _).alloc _, heap_alloc_new w _⟩
  have hnot : ∀ (x : Bool) (w : World), (Op.unary .not (.bool x)).run Tryz.prog w = .ok (.bool (!x)) w := fun _ _ => rfl
  have HK0 : Hid (KO w (w.alloc (.cells #[.string f1, .bool f2] 148)) (f1, f2) 0) := ⟨HW0.out.2, fun h => by
    have h' : f2 = false := h
    subst h'; rfl, HW0.out.1⟩
  clear hz hz1 hg HW0
  go_enter Tryz.func54, Tryz.ntmps54
  go_wp2_with (with_reducible refine wpList_load_row rfl 117 (.global 1) rfl 1 rfl t0 C z0 _ HZ1.out Tryz.underlying117 rfl HCI.out ?_)
  go_loopw [7] (fun i wr => ∃ (k : Nat), k ≤ 23 ∧ i = .int .i64 (k : Int) ∧ Hid (KO w wr (f1, f2) k)) (fun i _ => 23 - (intOf i).toNat)
  case atStart => exact ⟨0, by omega, rfl, HK0⟩
  case round =>
    clear HK0
    obtain ⟨k, hk, rfl, HJ⟩ := hrel
    have hJ := HJ.out
    have HU := Lib.hid hJ.up
    have c0 := cell_of hJ.box 0
    have c1 := cell_of hJ.box 1
    have HBX : Hid (∀ W, Upd noBlock wr W → W.heap[w.heap.size]? = some (.cells #[.string f1, .bool f2] 148 (0, 0))) := fun W h => h.cells hJ.box (fun h => h)
    have hrun := hJ.run
    have hbl : w.heap.size < wr.heap.size := lt_of_block hJ.box
    by_cases hlt : k < 23
    · have ix := HIX.out k hlt
      have hlt' : (k : Int) < 23 := by omega
      rw [kind_step hlt] at hrun
      obtain ⟨X, hX⟩ : ∃ X : ByteArray, ⟨(Con.wordK k).toArray⟩ = X := ⟨_, rfl⟩
      have hXd : X.data.toList = Con.wordK k := by rw [← hX]
      rw [hX] at ix
      generalize (⟨(Con.letters k).toArray⟩ : ByteArray) = Y at ix
      have cA : (wr.alloc (.cells #[.string X, .string Y] 116)).cell? ⟨w.heap.size, 0, none⟩ = some (.string f1) := cell_of (HBX.out _ ((Upd.refl _ _).alloc _)) 0
      have cB : (wr.alloc (.cells #[.string X, .string Y] 116)).cell? ⟨w.heap.size, 1, none⟩ = some (.bool f2) := cell_of (HBX.out _ ((Upd.refl _ _).alloc _)) 1
      have UN : Hid (Upd noBlock w (wr.alloc (.cells #[.string X, .string Y] 116))) := HU.out.alloc _
      have HBN := Lib.hid (HBX.out _ ((Upd.refl noBlock wr).alloc (.cells #[.string X, .string Y] 116)))
      cases f2 with
      | true =>
        have HN : Hid (KO w (wr.alloc (.cells #[.string X, .string Y] 116)) (f1, true) (k + 1)) := ⟨HBN.out, (fun h => by cases h), UN.out⟩
        clear hrun hJ HJ hX hXd
        go_wp2
        go_roundw
        case rel => exact ⟨k + 1, by omega, by go_num, HN⟩
        case measure => simp [intOf] <;> omega
      | false =>
        by_cases he : f1.data.toList = Con.wordK k
        · have z1 : (f1.toList == X.toList) = true := by rw [Lib.toList_data, Lib.toList_data, hXd, he]; exact beq_self_eq_true _
          have HF : Hid (Con.kindF (f1, false) = some k) := by
            show _ = _
            have := hrun rfl
            rw [if_pos he] at this
            exact this
          clear hrun hJ HJ hX hXd he
          go_wp2
          go_returns
          exact ⟨by rw [HF.out]; rfl, UN.out⟩
        · have z1 : (f1.toList == X.toList) = false := by
            rw [Lib.toList_data, Lib.toList_data, hXd, beq_eq_false_iff_ne]; exact he
          have HN : Hid (KO w (wr.alloc (.cells #[.string X, .string Y] 116)) (f1, false) (k + 1)) := ⟨HBN.out, fun h => by
            have := hrun h
            rwa [if_neg he] at this, UN.out⟩
          clear hrun hJ HJ hX hXd he
          go_wp2
          go_roundw
          case rel => exact ⟨k + 1, by omega, by go_num, HN⟩
          case measure => simp [intOf] <;> omega
    · obtain rfl : k = 23 := by omega
      have HF : Hid (Con.kindF (f1, f2) = none) := by
        show _ = _
        cases f2 with
        | true => rfl
        | false => exact hrun rfl
      clear hrun hJ HJ
      go_wp2
      go_returns
      exact ⟨by rw [HF.out]; rfl, HU.out⟩
end Go.Proofs.YthcjogigkagmdaaGreatDoor
