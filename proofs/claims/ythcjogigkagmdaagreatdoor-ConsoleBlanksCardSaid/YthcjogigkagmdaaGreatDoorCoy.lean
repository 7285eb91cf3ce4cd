/- ConsoleLines, walked. -/
import Derived.Test.YthcjogigkagmdaaGreatDoorCox
namespace Go.Proofs.YthcjogigkagmdaaGreatDoor
open Go.RowKit
set_option linter.unusedVariables false

/-- Parse, as to the fault alone -/
theorem parse_f (x : ByteArray) (w : World) (hg : Gl w) (hx : x.size ≤ 140737488351232) : Calls Tryz.prog 10 #[.string x] w fun e w' =>
    ∃ g1 g2 g3 g4 g5 a m c, e = .returned (.tuple #[.agg #[.int .i64 g1, .int .i64 g2, .int .i64 g3, .int .i64 g4, .int .i64 g5, .slice a m c], .agg #[.int .i64 (Con.parseL x.data.toList).2.1, .int .i64 ((Con.parseL x.data.toList).2.2 : Int)]]) ∧ Upd noBlock w w' := by
  refine (parse_any x w hg hx).mono ?_
  rintro e w' ⟨g1, g2, g3, g4, g5, a, m, c, rfl, hs, hm, hu⟩
  exact ⟨g1, g2, g3, g4, g5, a, m, c, rfl, hu⟩
theorem two_new (w : World) (o1 o2 : Obj) : ((w.alloc o1).alloc o2).heap[w.heap.size]? = some o1 ∧ ((w.alloc o1).alloc o2).heap[w.heap.size + 1]? = some o2 := by
  refine ⟨block_alloc (heap_alloc_new w o1) o2, ?_⟩
  have h9 := heap_alloc_new (w.alloc o1) o2
  rw [show (w.alloc o1).heap.size = w.heap.size + 1 from by simp] at h9
  exact h9
theorem run_line (L : List (List UInt8)) : ∀ (n : Nat) (s : Con.Scr), (Con.runL n s L).2.2 ≤ n + L.length := by
  induction L with
  | nil => intro n s; exact Nat.zero_le _
  | cons l L ih =>
    intro n s
    rw [Con.runL]
    split
    · have := ih (n + 1) (Con.takeL s l).1
      rw [List.length_cons]; omega
    · rw [List.length_cons]; show n + 1 ≤ _; omega
theorem lines_len : ∀ l : List UInt8, (Con.linesOf l).length ≤ l.length
  | [] => Nat.le_refl _
  | c :: l => by
    have ih := lines_len l
    by_cases hc : c = 10
    · subst hc; rw [Con.linesOf_nl]; simp only [List.length_cons]; omega
    · rw [lines_ne hc]
      split
      · simp
      · next x t h => rw [h] at ih; simp only [List.length_cons] at *; omega
theorem parse_line (l : List UInt8) : (Con.parseL l).2.2 ≤ 65536 := by
  unfold Con.parseL
  split
  · exact Nat.zero_le _
  · next h => have := run_line (Con.linesOf l) 0 Con.zS; have := lines_len l; omega
set_option maxRecDepth 100000 in
set_option maxHeartbeats 1600000 in
theorem lines_any (x : ByteArray) (n : Int) (w : World) (hg : Gl w) (hx : x.size ≤ 140737488351232) (hn : (Lit.int .i64 n).wf = true) : Calls Tryz.prog 7 #[.string x, .int .i64 n] w fun e w' => e = .returned (.bool true) ∧ Upd noBlock w w' := by
  have HSP := Lib.hid (speaks_any w hg)
  have HG : Hid (∀ W, Upd noBlock w W → Gl W) := fun W h => hg.grow h
  have hs : IntKind.i64.wrap (x.size : Int) = (x.size : Int) := IntWalk.i64_in _ (by omega)
  obtain ⟨K, hK⟩ : ∃ K : Int, (if n < 0 then 2 else if 100 < n then 2 else n) = K := ⟨_, rfl⟩
  have HK : Hid (0 ≤ K ∧ K ≤ 100) := by
    show _ ∧ _
    rw [← hK]
    split
    · omega
    · split <;> omega
  clear hg
  have h3 : (n < 0 ∧ K = 2) ∨ (0 ≤ n ∧ 100 < n ∧ K = 2) ∨ (0 ≤ n ∧ n ≤ 100 ∧ K = n) := by
    by_cases h0 : n < 0
    · rw [if_pos h0] at hK; exact .inl ⟨h0, hK.symm⟩
    · rw [if_neg h0] at hK
      by_cases h1 : 100 < n
      · rw [if_pos h1] at hK; exact .inr (.inl ⟨by omega, h1, hK.symm⟩)
      · rw [if_neg h1] at hK; exact .inr (.inr ⟨by omega, by omega, hK.symm⟩)
  clear hK
  by_cases hb : 60000 < x.size
  · have d3 : decide ((60000 : Int) < (x.size : Int)) = true := decide_eq_true (by omega)
    rcases h3 with ⟨h0, hK⟩ | ⟨h0, h1, hK⟩ | ⟨h0, h1, hK⟩
    · have d1 : decide (n < 0) = true := decide_eq_true h0
      clear h0 hb hK
      go_enter Tryz.func7, Tryz.ntmps7
      go_wp2_with (go_at_call 9; (with_reducible refine HSP.out.mono ?_); rintro e w1 ⟨rfl, hu⟩; have U1 := Lib.hid hu; clear hu)
      go_ret
      exact ⟨rfl, U1.out⟩
    · have d1 : decide (n < 0) = false := decide_eq_false (by omega)
      have d2 : decide (100 < n) = true := decide_eq_true h1
      clear h0 hb hK h1
      go_enter Tryz.func7, Tryz.ntmps7
      go_wp2_with (go_at_call 9; (with_reducible refine HSP.out.mono ?_); rintro e w1 ⟨rfl, hu⟩; have U1 := Lib.hid hu; clear hu)
      go_ret
      exact ⟨rfl, U1.out⟩
    · have d1 : decide (n < 0) = false := decide_eq_false (by omega)
      have d2 : decide (100 < n) = false := decide_eq_false (by omega)
      clear h0 hb hK h1
      go_enter Tryz.func7, Tryz.ntmps7
      go_wp2_with (go_at_call 9; (with_reducible refine HSP.out.mono ?_); rintro e w1 ⟨rfl, hu⟩; have U1 := Lib.hid hu; clear hu)
      go_ret
      exact ⟨rfl, U1.out⟩
  · have d3 : decide ((60000 : Int) < (x.size : Int)) = false := decide_eq_false (by omega)
    have hPN := fun k hk => Con.parse_no k hk x.data.toList (by show x.size ≤ _; omega)
    have HPX : Hid (∀ W, Upd noBlock w W → _) := fun W h => parse_f x W (HG.out _ h) hx
    have HPY : Hid (∀ (y : ByteArray) W, Upd noBlock w W → y.size ≤ 140737488351232 → _) := fun y W h hy => parse_f y W (HG.out _ h) hy
    have HLN := Lib.hid (parse_line x.data.toList)
    obtain ⟨C, hC⟩ : ∃ C, (Con.parseL x.data.toList).2.1 = C := ⟨_, rfl⟩
    obtain ⟨N, hN⟩ : ∃ N, (Con.parseL x.data.toList).2.2 = N := ⟨_, rfl⟩
    rw [hC, hN] at HPX hPN
    rw [hN] at HLN
    have HXS : Hid (x.size ≤ 60000) := by show _ ≤ _; omega
    have HPN := Lib.hid hPN
    clear hC hN hb hPN
    rcases h3 with ⟨h0, hK⟩ | ⟨h0, h1, hK⟩ | ⟨h0, h1, hK⟩
    · have d1 : decide (n < 0) = true := decide_eq_true h0
      have HK2 := Lib.hid hK
      clear h0 hK
      go_enter Tryz.func7, Tryz.ntmps7
      go_wp2_with (go_at_call 9; (with_reducible refine HSP.out.mono ?_); rintro e w1 ⟨rfl, hu⟩; have U1 := Lib.hid hu; clear hu)
      rw [← HK2.out]
      clear d1 HK2
      go_loopw [5, 6] (fun q i wr => ∃ (j : Nat) (s : ByteArray), (j : Int) ≤ K ∧ i = .int .i64 (j : Int) ∧ q = .string s ∧ Hid (s.data.toList = Con.noL j) ∧ Hid (Upd noBlock w wr)) (fun _ i _ => K.toNat - (intOf i).toNat)
      case atStart => exact ⟨0, ⟨#[]⟩, HK.out.1, rfl, rfl, rfl, U1⟩
      case round =>
        obtain ⟨j, s, hj, rfl, rfl, HS, HU⟩ := hrel
        have HJ := Lib.hid hj
        by_cases hjk : (j : Int) < K
        · have hw : IntKind.i64.wrap ((j : Int) + 1) = ((j + 1 : Nat) : Int) := IntWalk.i64_in _ (by have := HK.out; omega)
          have dj : decide ((j : Int) < K) = true := decide_eq_true hjk
          have HS1 : Hid ((s ++ (⟨#[35, 32, 110, 111, 10]⟩ : ByteArray)).data.toList = Con.noL (j + 1)) := by
            show _ = _
            rw [Con.noL, ← HS.out]; simp
          have HJ1 : Hid (((j + 1 : Nat) : Int) ≤ K) := by show _ ≤ _; omega
          have hsz : s.size = 5 * j := by rw [← Con.noL_len j, ← HS.out]; rfl
          have hov : ¬ (9223372036854775807 < s.size + 5) := by have := HK.out; omega
          clear hj hjk hsz
          go_wp2
          go_roundw
          case rel => exact ⟨j + 1, _, HJ1.out, by simp, rfl, HS1, HU⟩
          case measure => simp only [intOf]; have := HJ1.out; omega
        · have hjK : (j : Int) = K := by omega
          have dj : decide ((j : Int) < K) = false := decide_eq_false hjk
          have hj100 : j ≤ 100 := by have := HK.out; omega
          obtain ⟨p1, p2, p3⟩ := HPN.out j hj100
          rw [← HS.out] at p1 p2 p3
          have hsz : s.size = 5 * j := by rw [← Con.noL_len j, ← HS.out]; rfl
          have hov : ¬ (9223372036854775807 < s.size + x.size) := by have := HXS.out; omega
          have happ : (s ++ x).data.toList = s.data.toList ++ x.data.toList := by simp
          have hyl : (s ++ x).data.toList.length = (s ++ x).size := rfl
          have hys : (s ++ x).size ≤ 140737488351232 := by
            rw [← hyl, happ, List.length_append]
            have h1 : s.data.toList.length = s.size := rfl
            have h2 : x.data.toList.length = x.size := rfl
            have := HXS.out
            omega
          have HPY2 : Hid (∀ W, Upd noBlock w W → _) := fun W h => HPY.out (s ++ x) W h hys
          rw [happ] at HPY2
          have hP1 := HPX.out
          clear hj hjk hsz happ hyl hys HPN
          by_cases hC : C = 0
          · obtain ⟨p4, p5⟩ := p3 hC
            rw [p1, p5, hC] at HPY2
            rw [hC, p4] at HPX
            clear p1 p2 p3 p4 p5 hP1
            go_wp2_with fail
            refine (HPX.out _ HU.out).mono ?_
            rintro e w2 ⟨g1, g2, g3, g4, g5, a, m, c, rfl, hu⟩
            have U2 : Hid (∀ o1 o2, Upd noBlock w ((w2.alloc o1).alloc o2)) := fun o1 o2 => ((HU.out.trans hu).alloc o1).alloc o2
            clear hu
            go_wp2_with fail
            refine (HPY2.out _ (U2.out _ _)).mono ?_
            rintro e w3 ⟨h1, h2, h3, h4, h5, b, m2, c2, rfl, hu⟩
            have U3 : Hid (∀ o1 o2, Upd noBlock w ((w3.alloc o1).alloc o2)) := fun o1 o2 => (((U2.out _ _).trans hu).alloc o1).alloc o2
            obtain ⟨⟨f0, f1⟩, _⟩ := fau_cells (hu.cells (two_new w2 _ _).2 (fun h => h))
            have AL : ∀ (b i : Nat) (v : Value) (o1 o2 : Obj), w3.cell? ⟨b, i, none⟩ = some v → ((w3.alloc o1).alloc o2).cell? ⟨b, i, none⟩ = some v := fun b i v o1 o2 h => upd_cell (((Upd.refl noBlock w3).alloc o1).alloc o2) h
            have q6 := fun o1 o2 => AL _ _ _ o1 o2 f0
            have q7 := fun o1 o2 => AL _ _ _ o1 o2 f1
            clear AL f0 f1 hu
            go_wp2
            go_ret
            exact ⟨rfl, U3.out _ _⟩
          · have hwN : IntKind.i64.wrap ((N : Int) + K) = (N : Int) + K := IntWalk.i64_in _ (by have := HK.out; have := HLN.out; omega)
            have hNK : ((N + j : Nat) : Int) = (N : Int) + K := by rw [← hjK]; simp
            rw [p1, p2 hC, hNK] at HPY2
            have HC := Lib.hid hC
            clear p1 p2 p3 hP1 hC hNK
            go_wp2_with fail
            refine (HPX.out _ HU.out).mono ?_
            rintro e w2 ⟨g1, g2, g3, g4, g5, a, m, c, rfl, hu⟩
            have U2 : Hid (∀ o1 o2, Upd noBlock w ((w2.alloc o1).alloc o2)) := fun o1 o2 => ((HU.out.trans hu).alloc o1).alloc o2
            clear hu
            go_wp2_with fail
            refine (HPY2.out _ (U2.out _ _)).mono ?_
            rintro e w3 ⟨h1, h2, h3, h4, h5, b, m2, c2, rfl, hu⟩
            have U3 : Hid (∀ o1 o2, Upd noBlock w ((w3.alloc o1).alloc o2)) := fun o1 o2 => (((U2.out _ _).trans hu).alloc o1).alloc o2
            obtain ⟨⟨f0, f1⟩, _⟩ := fau_cells (hu.cells (two_new w2 _ _).2 (fun h => h))
            have AL : ∀ (b i : Nat) (v : Value) (o1 o2 : Obj), w3.cell? ⟨b, i, none⟩ = some v → ((w3.alloc o1).alloc o2).cell? ⟨b, i, none⟩ = some v := fun b i v o1 o2 h => upd_cell (((Upd.refl noBlock w3).alloc o1).alloc o2) h
            have q6 := fun o1 o2 => AL _ _ _ o1 o2 f0
            have q7 := fun o1 o2 => AL _ _ _ o1 o2 f1
            clear AL f0 f1 hu
            go_wp2
            go_ret
            exact ⟨rfl, U3.out _ _⟩
    · have d1 : decide (n < 0) = false := decide_eq_false (by omega)
      have d2 : decide (100 < n) = true := decide_eq_true h1
      have HK2 := Lib.hid hK
      clear h0 hK h1
      go_enter Tryz.func7, Tryz.ntmps7
      go_wp2_with (go_at_call 9; (with_reducible refine HSP.out.mono ?_); rintro e w1 ⟨rfl, hu⟩; have U1 := Lib.hid hu; clear hu)
      rw [← HK2.out]
      clear d1 d2 HK2
      go_loopw [5, 6] (fun q i wr => ∃ (j : Nat) (s : ByteArray), (j : Int) ≤ K ∧ i = .int .i64 (j : Int) ∧ q = .string s ∧ Hid (s.data.toList = Con.noL j) ∧ Hid (Upd noBlock w wr)) (fun _ i _ => K.toNat - (intOf i).toNat)
      case atStart => exact ⟨0, ⟨#[]⟩, HK.out.1, rfl, rfl, rfl, U1⟩
      case round =>
        obtain ⟨j, s, hj, rfl, rfl, HS, HU⟩ := hrel
        have HJ := Lib.hid hj
        by_cases hjk : (j : Int) < K
        · have hw : IntKind.i64.wrap ((j : Int) + 1) = ((j + 1 : Nat) : Int) := IntWalk.i64_in _ (by have := HK.out; omega)
          have dj : decide ((j : Int) < K) = true := decide_eq_true hjk
          have HS1 : Hid ((s ++ (⟨#[35, 32, 110, 111, 10]⟩ : ByteArray)).data.toList = Con.noL (j + 1)) := by
            show _ = _
            rw [Con.noL, ← HS.out]; simp
          have HJ1 : Hid (((j + 1 : Nat) : Int) ≤ K) := by show _ ≤ _; omega
          have hsz : s.size = 5 * j := by rw [← Con.noL_len j, ← HS.out]; rfl
          have hov : ¬ (9223372036854775807 < s.size + 5) := by have := HK.out; omega
          clear hj hjk hsz
          go_wp2
          go_roundw
          case rel => exact ⟨j + 1, _, HJ1.out, by simp, rfl, HS1, HU⟩
          case measure => simp only [intOf]; have := HJ1.out; omega
        · have hjK : (j : Int) = K := by omega
          have dj : decide ((j : Int) < K) = false := decide_eq_false hjk
          have hj100 : j ≤ 100 := by have := HK.out; omega
          obtain ⟨p1, p2, p3⟩ := HPN.out j hj100
          rw [← HS.out] at p1 p2 p3
          have hsz : s.size = 5 * j := by rw [← Con.noL_len j, ← HS.out]; rfl
          have hov : ¬ (9223372036854775807 < s.size + x.size) := by have := HXS.out; omega
          have happ : (s ++ x).data.toList = s.data.toList ++ x.data.toList := by simp
          have hyl : (s ++ x).data.toList.length = (s ++ x).size := rfl
          have hys : (s ++ x).size ≤ 140737488351232 := by
            rw [← hyl, happ, List.length_append]
            have h1 : s.data.toList.length = s.size := rfl
            have h2 : x.data.toList.length = x.size := rfl
            have := HXS.out
            omega
          have HPY2 : Hid (∀ W, Upd noBlock w W → _) := fun W h => HPY.out (s ++ x) W h hys
          rw [happ] at HPY2
          have hP1 := HPX.out
          clear hj hjk hsz happ hyl hys HPN
          by_cases hC : C = 0
          · obtain ⟨p4, p5⟩ := p3 hC
            rw [p1, p5, hC] at HPY2
            rw [hC, p4] at HPX
            clear p1 p2 p3 p4 p5 hP1
            go_wp2_with fail
            refine (HPX.out _ HU.out).mono ?_
            rintro e w2 ⟨g1, g2, g3, g4, g5, a, m, c, rfl, hu⟩
            have U2 : Hid (∀ o1 o2, Upd noBlock w ((w2.alloc o1).alloc o2)) := fun o1 o2 => ((HU.out.trans hu).alloc o1).alloc o2
            clear hu
            go_wp2_with fail
            refine (HPY2.out _ (U2.out _ _)).mono ?_
            rintro e w3 ⟨h1, h2, h3, h4, h5, b, m2, c2, rfl, hu⟩
            have U3 : Hid (∀ o1 o2, Upd noBlock w ((w3.alloc o1).alloc o2)) := fun o1 o2 => (((U2.out _ _).trans hu).alloc o1).alloc o2
            obtain ⟨⟨f0, f1⟩, _⟩ := fau_cells (hu.cells (two_new w2 _ _).2 (fun h => h))
            have AL : ∀ (b i : Nat) (v : Value) (o1 o2 : Obj), w3.cell? ⟨b, i, none⟩ = some v → ((w3.alloc o1).alloc o2).cell? ⟨b, i, none⟩ = some v := fun b i v o1 o2 h => upd_cell (((Upd.refl noBlock w3).alloc o1).alloc o2) h
            have q6 := fun o1 o2 => AL _ _ _ o1 o2 f0
            have q7 := fun o1 o2 => AL _ _ _ o1 o2 f1
            clear AL f0 f1 hu
            go_wp2
            go_ret
            exact ⟨rfl, U3.out _ _⟩
          · have hwN : IntKind.i64.wrap ((N : Int) + K) = (N : Int) + K := IntWalk.i64_in _ (by have := HK.out; have := HLN.out; omega)
            have hNK : ((N + j : Nat) : Int) = (N : Int) + K := by rw [← hjK]; simp
            rw [p1, p2 hC, hNK] at HPY2
            have HC := Lib.hid hC
            clear p1 p2 p3 hP1 hC hNK
            go_wp2_with fail
            refine (HPX.out _ HU.out).mono ?_
            rintro e w2 ⟨g1, g2, g3, g4, g5, a, m, c, rfl, hu⟩
            have U2 : Hid (∀ o1 o2, Upd noBlock w ((w2.alloc o1).alloc o2)) := fun o1 o2 => ((HU.out.trans hu).alloc o1).alloc o2
            clear hu
            go_wp2_with fail
            refine (HPY2.out _ (U2.out _ _)).mono ?_
            rintro e w3 ⟨h1, h2, h3, h4, h5, b, m2, c2, rfl, hu⟩
            have U3 : Hid (∀ o1 o2, Upd noBlock w ((w3.alloc o1).alloc o2)) := fun o1 o2 => (((U2.out _ _).trans hu).alloc o1).alloc o2
            obtain ⟨⟨f0, f1⟩, _⟩ := fau_cells (hu.cells (two_new w2 _ _).2 (fun h => h))
            have AL : ∀ (b i : Nat) (v : Value) (o1 o2 : Obj), w3.cell? ⟨b, i, none⟩ = some v → ((w3.alloc o1).alloc o2).cell? ⟨b, i, none⟩ = some v := fun b i v o1 o2 h => upd_cell (((Upd.refl noBlock w3).alloc o1).alloc o2) h
            have q6 := fun o1 o2 => AL _ _ _ o1 o2 f0
            have q7 := fun o1 o2 => AL _ _ _ o1 o2 f1
            clear AL f0 f1 hu
            go_wp2
            go_ret
            exact ⟨rfl, U3.out _ _⟩
    · subst hK
      have d1 : decide (K < 0) = false := decide_eq_false (by omega)
      have d2 : decide (100 < K) = false := decide_eq_false (by omega)
      clear h0 h1
      go_enter Tryz.func7, Tryz.ntmps7
      go_wp2_with (go_at_call 9; (with_reducible refine HSP.out.mono ?_); rintro e w1 ⟨rfl, hu⟩; have U1 := Lib.hid hu; clear hu)
      clear d1 d2
      go_loopw [5, 6] (fun q i wr => ∃ (j : Nat) (s : ByteArray), (j : Int) ≤ K ∧ i = .int .i64 (j : Int) ∧ q = .string s ∧ Hid (s.data.toList = Con.noL j) ∧ Hid (Upd noBlock w wr)) (fun _ i _ => K.toNat - (intOf i).toNat)
      case atStart => exact ⟨0, ⟨#[]⟩, HK.out.1, rfl, rfl, rfl, U1⟩
      case round =>
        obtain ⟨j, s, hj, rfl, rfl, HS, HU⟩ := hrel
        have HJ := Lib.hid hj
        by_cases hjk : (j : Int) < K
        · have hw : IntKind.i64.wrap ((j : Int) + 1) = ((j + 1 : Nat) : Int) := IntWalk.i64_in _ (by have := HK.out; omega)
          have dj : decide ((j : Int) < K) = true := decide_eq_true hjk
          have HS1 : Hid ((s ++ (⟨#[35, 32, 110, 111, 10]⟩ : ByteArray)).data.toList = Con.noL (j + 1)) := by
            show _ = _
            rw [Con.noL, ← HS.out]; simp
          have HJ1 : Hid (((j + 1 : Nat) : Int) ≤ K) := by show _ ≤ _; omega
          have hsz : s.size = 5 * j := by rw [← Con.noL_len j, ← HS.out]; rfl
          have hov : ¬ (9223372036854775807 < s.size + 5) := by have := HK.out; omega
          clear hj hjk hsz
          go_wp2
          go_roundw
          case rel => exact ⟨j + 1, _, HJ1.out, by simp, rfl, HS1, HU⟩
          case measure => simp only [intOf]; have := HJ1.out; omega
        · have hjK : (j : Int) = K := by omega
          have dj : decide ((j : Int) < K) = false := decide_eq_false hjk
          have hj100 : j ≤ 100 := by have := HK.out; omega
          obtain ⟨p1, p2, p3⟩ := HPN.out j hj100
          rw [← HS.out] at p1 p2 p3
          have hsz : s.size = 5 * j := by rw [← Con.noL_len j, ← HS.out]; rfl
          have hov : ¬ (9223372036854775807 < s.size + x.size) := by have := HXS.out; omega
          have happ : (s ++ x).data.toList = s.data.toList ++ x.data.toList := by simp
          have hyl : (s ++ x).data.toList.length = (s ++ x).size := rfl
          have hys : (s ++ x).size ≤ 140737488351232 := by
            rw [← hyl, happ, List.length_append]
            have h1 : s.data.toList.length = s.size := rfl
            have h2 : x.data.toList.length = x.size := rfl
            have := HXS.out
            omega
          have HPY2 : Hid (∀ W, Upd noBlock w W → _) := fun W h => HPY.out (s ++ x) W h hys
          rw [happ] at HPY2
          have hP1 := HPX.out
          clear hj hjk hsz happ hyl hys HPN
          by_cases hC : C = 0
          · obtain ⟨p4, p5⟩ := p3 hC
            rw [p1, p5, hC] at HPY2
            rw [hC, p4] at HPX
            clear p1 p2 p3 p4 p5 hP1
            go_wp2_with fail
            refine (HPX.out _ HU.out).mono ?_
            rintro e w2 ⟨g1, g2, g3, g4, g5, a, m, c, rfl, hu⟩
            have U2 : Hid (∀ o1 o2, Upd noBlock w ((w2.alloc o1).alloc o2)) := fun o1 o2 => ((HU.out.trans hu).alloc o1).alloc o2
            clear hu
            go_wp2_with fail
            refine (HPY2.out _ (U2.out _ _)).mono ?_
            rintro e w3 ⟨h1, h2, h3, h4, h5, b, m2, c2, rfl, hu⟩
            have U3 : Hid (∀ o1 o2, Upd noBlock w ((w3.alloc o1).alloc o2)) := fun o1 o2 => (((U2.out _ _).trans hu).alloc o1).alloc o2
            obtain ⟨⟨f0, f1⟩, _⟩ := fau_cells (hu.cells (two_new w2 _ _).2 (fun h => h))
            have AL : ∀ (b i : Nat) (v : Value) (o1 o2 : Obj), w3.cell? ⟨b, i, none⟩ = some v → ((w3.alloc o1).alloc o2).cell? ⟨b, i, none⟩ = some v := fun b i v o1 o2 h => upd_cell (((Upd.refl noBlock w3).alloc o1).alloc o2) h
            have q6 := fun o1 o2 => AL _ _ _ o1 o2 f0
            have q7 := fun o1 o2 => AL _ _ _ o1 o2 f1
            clear AL f0 f1 hu
            go_wp2
            go_ret
            exact ⟨rfl, U3.out _ _⟩
          · have hwN : IntKind.i64.wrap ((N : Int) + K) = (N : Int) + K := IntWalk.i64_in _ (by have := HK.out; have := HLN.out; omega)
            have hNK : ((N + j : Nat) : Int) = (N : Int) + K := by rw [← hjK]; simp
            rw [p1, p2 hC, hNK] at HPY2
            have HC := Lib.hid hC
            clear p1 p2 p3 hP1 hC hNK
            go_wp2_with fail
            refine (HPX.out _ HU.out).mono ?_
            rintro e w2 ⟨g1, g2, g3, g4, g5, a, m, c, rfl, hu⟩
            have U2 : Hid (∀ o1 o2, Upd noBlock w ((w2.alloc o1).alloc o2)) := fun o1 o2 => ((HU.out.trans hu).alloc o1).alloc o2
            clear hu
            go_wp2_with fail
            refine (HPY2.out _ (U2.out _ _)).mono ?_
            rintro e w3 ⟨h1, h2, h3, h4, h5, b, m2, c2, rfl, hu⟩
            have U3 : Hid (∀ o1 o2, Upd noBlock w ((w3.alloc o1).alloc o2)) := fun o1 o2 => (((U2.out _ _).trans hu).alloc o1).alloc o2
            obtain ⟨⟨f0, f1⟩, _⟩ := fau_cells (hu.cells (two_new w2 _ _).2 (fun h => h))
            have AL : ∀ (b i : Nat) (v : Value) (o1 o2 : Obj), w3.cell? ⟨b, i, none⟩ = some v → ((w3.alloc o1).alloc o2).cell? ⟨b, i, none⟩ = some v := fun b i v o1 o2 h => upd_cell (((Upd.refl noBlock w3).alloc o1).alloc o2) h
            have q6 := fun o1 o2 => AL _ _ _ o1 o2 f0
            have q7 := fun o1 o2 => AL _ _ _ o1 o2 f1
            clear AL f0 f1 hu
            go_wp2
            go_ret
            exact ⟨rfl, U3.out _ _⟩
end Go.Proofs.YthcjogigkagmdaaGreatDoor
