/- quote: a text in quotation marks. -/
import Derived.Test.YthcjogigkagmdaaGreatDoorCox
namespace Go.Proofs.YthcjogigkagmdaaGreatDoor
open Go.RowKit
set_option linter.unusedVariables false

theorem Row1.arr (w : World) (e : TypeId) (vs : Array Value) : Row1 (w.alloc (.cells vs e)) (w.heap.size + 1) (some ⟨w.heap.size, 0, none⟩) vs.size vs.toList :=
  ⟨Array.length_toList, fun _ => ⟨w.heap.size, 0, rfl, by omega, fun j hj => by
    rw [cell_of (heap_alloc_new w _), Nat.zero_add, Array.getElem?_toList]⟩⟩
theorem OwnB.first (w : World) (b : UInt8) : OwnB (w.alloc (.cells #[.int .u8 (b.toNat : Int)] 5)) w.heap.size (.slice (some ⟨w.heap.size, 0, none⟩) 1 1) [b] :=
  ⟨rfl, .inr ⟨w.heap.size, 1, _, rfl, Nat.le_refl _, heap_alloc_new w _, Nat.le_refl _, by unfold maxLen; omega, rfl, rfl⟩⟩
/-- an append of bytes to a row of the call's own -/
theorem own_more {w0 wr wa w2 : World} {B : Nat} {v v2 : Value} {l k : List UInt8} {m : Nat} {news : List Value} (hv : OwnB wr B v l) (hB : B = w0.heap.size) (h0 : Upd noBlock w0 wr) (h1 : Upd noBlock wr wa) (hn : news = bc k) (hm : m = k.length)
    (hO : w2.ownsRow B 5 1 v2 (l.length + m) (bc l ++ news)) (hg : wa.grownBy w2 v.ownBlock) : OwnB w2 B v2 (l ++ k) ∧ Upd noBlock w0 w2 :=
  ⟨OwnB.join hn hm hO, upd_of_grown (h0.trans h1) hg (fun j hj => .inr (by rw [← hB]; exact (own_baseB hv j hj).1))⟩
theorem esc_len (c : UInt8) : (Con.escB c).length ≤ 4 := by
  unfold Con.escB
  split
  · simp
  · split <;> simp
theorem esc_lens (l : List UInt8) : (l.flatMap Con.escB).length ≤ 4 * l.length := by
  induction l with
  | nil => simp
  | cons c l ih => rw [List.flatMap_cons, List.length_append, List.length_cons]; have := esc_len c; omega
theorem and15 (c : UInt8) : bits BinOp.and IntKind.u8 (c.toNat : Int) 15 = ((c.toNat % 16 : Nat) : Int) := by
  have h : ∀ n : Fin 256, bits BinOp.and IntKind.u8 (n.val : Int) 15 = ((n.val % 16 : Nat) : Int) := by decide +kernel
  exact h ⟨c.toNat, c.toNat_lt⟩
theorem dig_at (W : World) : ∀ d : Nat, d < 16 → (Instr.index 9 (.string ⟨#[48, 49, 50, 51, 52, 53, 54, 55, 56, 57, 65, 66, 67, 68, 69, 70]⟩) (.int .u8 (d : Int))).run Tryz.prog W = .ok (.int .u8 ((Con.hexD d).toNat : Int)) W
  | 0, _ => by kernel_rfl
  | 1, _ => by kernel_rfl
  | 2, _ => by kernel_rfl
  | 3, _ => by kernel_rfl
  | 4, _ => by kernel_rfl
  | 5, _ => by kernel_rfl
  | 6, _ => by kernel_rfl
  | 7, _ => by kernel_rfl
  | 8, _ => by kernel_rfl
  | 9, _ => by kernel_rfl
  | 10, _ => by kernel_rfl
  | 11, _ => by kernel_rfl
  | 12, _ => by kernel_rfl
  | 13, _ => by kernel_rfl
  | 14, _ => by kernel_rfl
  | 15, _ => by kernel_rfl
  | _ + 16, h => by omega
/-- what holds ahead of each round -/
structure QuJ (w wr : World) (l : List UInt8) (j : Nat) (v : Value) : Prop where
  own : OwnB wr w.heap.size v (34 :: (l.take j).flatMap Con.escB)
  up : Upd noBlock w wr
set_option maxRecDepth 100000 in
set_option maxHeartbeats 1600000 in
theorem quote_any (s : ByteArray) (w : World) (hs : s.size ≤ 1099511627776) : Calls Tryz.prog 44 #[.string s] w fun e w' => e = .returned (.string ⟨(Con.quoteL s.data.toList).toArray⟩) ∧ Upd noBlock w w' := by
  have hsz : s.data.toList.length = s.size := rfl
  obtain ⟨i0, hi0, hz0, hz1, hz2⟩ := byteParts
  have HZ : Hid (s.data.toList.length = s.size ∧ s.size ≤ 1099511627776) := ⟨hsz, hs⟩
  have H0 : Hid (QuJ w (w.alloc (.cells #[.int .u8 34] 5)) s.data.toList 0 (.slice (some ⟨w.heap.size, 0, none⟩) 1 1)) := ⟨OwnB.first w 34, (Upd.refl _ _).alloc _⟩
  have hsw : IntKind.i64.wrap (s.size : Int) = (s.size : Int) := IntWalk.i64_in _ (by omega)
  clear hsz
  go_enter Tryz.func44, Tryz.ntmps44
  go_wp2
  go_loopw [3, 9] (fun v i wr => ∃ j : Nat, j ≤ s.size ∧ i = .int .i64 (j : Int) ∧ Hid (QuJ w wr s.data.toList j v)) (fun _ i _ => s.size - (intOf i).toNat)
  case atStart => exact ⟨0, Nat.zero_le _, rfl, H0⟩
  case round =>
    clear H0
    obtain ⟨j, hj, rfl, HJ⟩ := hrel
    by_cases hjs : j < s.size
    · obtain ⟨c, hc⟩ : ∃ c, s[j]'hjs = c := ⟨_, rfl⟩
      have hget : s.data.toList[j]? = some c := by
        rw [Array.getElem?_toList, ← hc]; exact Array.getElem?_eq_getElem hjs
      have htk : s.data.toList.take (j + 1) = s.data.toList.take j ++ [c] := by rw [List.take_add_one, hget]; rfl
      have dj : decide ((j : Int) < (s.size : Int)) = true := decide_eq_true (by omega)
      have hwj : IntKind.i64.wrap ((j : Int) + 1) = (j : Int) + 1 := IntWalk.i64_in _ (by omega)
      have HM := Lib.hid (isMark_any c)
      have HP := Lib.hid (isPlain_any c)
      obtain ⟨L, hL⟩ : ∃ L, (34 : UInt8) :: (s.data.toList.take j).flatMap Con.escB = L := ⟨_, rfl⟩
      have HO : Hid (OwnB wr w.heap.size u3 L) := by show OwnB _ _ _ _; rw [← hL]; exact HJ.out.own
      have HU : Hid (Upd noBlock w wr) := HJ.out.up
      have HLL : Hid (L.length ≤ 1 + 4 * s.size) := by
        show _ ≤ _
        rw [← hL, List.length_cons]
        have h1 := esc_lens (s.data.toList.take j)
        have h2 : (s.data.toList.take j).length ≤ j := by rw [List.length_take]; omega
        omega
      have HN : Hid (∀ v2 w2, OwnB w2 w.heap.size v2 (L ++ Con.escB c) → Upd noBlock w w2 → QuJ w w2 s.data.toList (j + 1) v2) := fun v2 w2 h1 h2 => ⟨by rw [htk, List.flatMap_append, ← List.cons_append, hL]; simpa using h1, h2⟩
      have HB : Hid (∀ m, m ≤ 4 → L.length + m ≤ maxLen ∧ (L.length + m) * 1 ≤ 140737488355328) := fun m hm => by have := HLL.out; unfold maxLen; omega
      clear hget htk hL HJ HZ
      have HV : Hid (∀ W, Upd noBlock wr W → W.ownsRow w.heap.size 5 1 u3 L.length (bc L)) := fun W h => HO.out.grow h
      by_cases hm : Con.markB c = true
      · have he : Con.escB c = [92, c] := by unfold Con.escB; rw [if_pos hm]
        rw [he] at HN
        rw [hm] at HM
        have U0 : Hid (Upd noBlock wr (wr.alloc (.cells #[.int .u8 92, .int .u8 (c.toNat : Int)] 5))) := (Upd.refl _ _).alloc _
        have R0 : Hid (Row1 (wr.alloc (.cells #[.int .u8 92, .int .u8 (c.toNat : Int)] 5)) (wr.heap.size + 1) (some ⟨wr.heap.size, 0, none⟩) 2 [.int .u8 92, .int .u8 (c.toNat : Int)]) := Row1.arr wr 5 #[.int .u8 92, .int .u8 (c.toNat : Int)]
        have H1 : Hid (∀ u ∈ [Value.int .u8 92, Value.int .u8 (c.toNat : Int)], u.oneCell' = true) := by intro u hu; simp at hu; rcases hu with rfl | rfl <;> rfl
        clear he hm
        go_wp2_with (first
          | (go_at_call 59; (with_reducible refine (HM.out _).mono ?_); rintro e w1 ⟨rfl, rfl⟩)
          | (at_builtin; go_loud (refine wpList_append_vals _ rfl (.tmp 27) (.tmp 29) _ rfl w.heap.size 5 i0 (.int .u8 0) 1 Tryz.underlying62 hi0 hz0 hz1 hz2 rfl u3 L.length (bc L) rfl (HV.out _ U0.out) (wr.heap.size + 1) (some ⟨wr.heap.size, 0, none⟩) 2 2 [.int .u8 92, .int .u8 (c.toNat : Int)] rfl R0.out H1.out (HB.out 2 (by omega)).1 (HB.out 2 (by omega)).2 (HU.out.trans U0.out).size ?_; intro v2 w2 hO hg _; have HQ := Lib.hid (own_more (k := [92, c]) HO.out rfl HU.out U0.out rfl rfl hO hg); clear hO hg)))
        go_roundw
        case rel => exact ⟨j + 1, by omega, by simp, HN.out _ _ HQ.out.1 HQ.out.2⟩
        case measure => simp only [intOf]; omega
      · have hm2 : Con.markB c = false := by simpa using hm
        rw [hm2] at HM
        by_cases hp : Con.plainB c = true
        · have he : Con.escB c = [c] := by unfold Con.escB; rw [if_neg hm, if_pos hp]
          rw [he] at HN
          rw [hp] at HP
          have U0 : Hid (Upd noBlock wr (wr.alloc (.cells #[.int .u8 (c.toNat : Int)] 5))) := (Upd.refl _ _).alloc _
          have R0 : Hid (Row1 (wr.alloc (.cells #[.int .u8 (c.toNat : Int)] 5)) (wr.heap.size + 1) (some ⟨wr.heap.size, 0, none⟩) 1 [.int .u8 (c.toNat : Int)]) := Row1.arr wr 5 #[.int .u8 (c.toNat : Int)]
          have H1 : Hid (∀ u ∈ [Value.int .u8 (c.toNat : Int)], u.oneCell' = true) := by intro u hu; simp at hu; subst hu; rfl
          clear he hm hm2 hp
          go_wp2_with (first
            | (go_at_call 59; (with_reducible refine (HM.out _).mono ?_); rintro e w1 ⟨rfl, rfl⟩)
            | (go_at_call 60; (with_reducible refine (HP.out _).mono ?_); rintro e w1 ⟨rfl, rfl⟩)
            | (at_builtin; refine wpList_append_vals _ rfl (.tmp 34) (.tmp 36) _ rfl w.heap.size 5 i0 (.int .u8 0) 1 Tryz.underlying62 hi0 hz0 hz1 hz2 rfl u3 L.length (bc L) rfl (HV.out _ U0.out) (wr.heap.size + 1) (some ⟨wr.heap.size, 0, none⟩) 1 1 [.int .u8 (c.toNat : Int)] rfl R0.out H1.out (HB.out 1 (by omega)).1 (HB.out 1 (by omega)).2 (HU.out.trans U0.out).size ?_; intro v2 w2 hO hg _; have HQ := Lib.hid (own_more (k := [c]) HO.out rfl HU.out U0.out rfl rfl hO hg); clear hO hg))
          go_roundw
          case rel => exact ⟨j + 1, by omega, by simp, HN.out _ _ HQ.out.1 HQ.out.2⟩
          case measure => simp only [intOf]; omega
        · have hp2 : Con.plainB c = false := by simpa using hp
          rw [hp2] at HP
          have he : Con.escB c = [92, 120, Con.hexD (c.toNat / 16), Con.hexD (c.toNat % 16)] := by unfold Con.escB; rw [if_neg hm, if_neg hp]
          rw [he] at HN
          clear he hm hm2 hp hp2
          go_wp2_with (first
            | (go_at_call 59; (with_reducible refine (HM.out _).mono ?_); rintro e w1 ⟨rfl, rfl⟩)
            | (go_at_call 60; (with_reducible refine (HP.out _).mono ?_); rintro e w1 ⟨rfl, rfl⟩))
          have hb := and15 c
          have i1 : ∀ W, (Instr.index 9 (.string ⟨#[48, 49, 50, 51, 52, 53, 54, 55, 56, 57, 65, 66, 67, 68, 69, 70]⟩) (.int .u8 ((c.toNat : Int) / 16))).run Tryz.prog W = .ok (.int .u8 ((Con.hexD (c.toNat / 16)).toNat : Int)) W := fun W => dig_at W (c.toNat / 16) (by have := c.toNat_lt; omega)
          have i2 : ∀ W, (Instr.index 9 (.string ⟨#[48, 49, 50, 51, 52, 53, 54, 55, 56, 57, 65, 66, 67, 68, 69, 70]⟩) (.int .u8 ((c.toNat % 16 : Nat) : Int))).run Tryz.prog W = .ok (.int .u8 ((Con.hexD (c.toNat % 16)).toNat : Int)) W := fun W => dig_at W (c.toNat % 16) (by omega)
          have i3 : ∀ W, (Instr.index 9 (.string ⟨#[48, 49, 50, 51, 52, 53, 54, 55, 56, 57, 65, 66, 67, 68, 69, 70]⟩) (.int .u8 ((c.toNat : Int) % 16))).run Tryz.prog W = .ok (.int .u8 ((Con.hexD (c.toNat % 16)).toNat : Int)) W := fun W => dig_at W (c.toNat % 16) (by omega)
          obtain ⟨x, hx⟩ : ∃ x, Con.hexD (c.toNat / 16) = x := ⟨_, rfl⟩
          obtain ⟨y, hy⟩ : ∃ y, Con.hexD (c.toNat % 16) = y := ⟨_, rfl⟩
          rw [hx] at i1
          rw [hy] at i2 i3
          rw [hx, hy] at HN
          have U0 : Hid (Upd noBlock wr ((wr.alloc (.cells #[.int .u8 92, .int .u8 120, .int .u8 (x.toNat : Int), .int .u8 (y.toNat : Int)] 5)).drew)) := ((Upd.refl _ _).alloc _).drew
          have R0 : Hid (Row1 ((wr.alloc (.cells #[.int .u8 92, .int .u8 120, .int .u8 (x.toNat : Int), .int .u8 (y.toNat : Int)] 5)).drew) (wr.heap.size + 1) (some ⟨wr.heap.size, 0, none⟩) 4 [.int .u8 92, .int .u8 120, .int .u8 (x.toNat : Int), .int .u8 (y.toNat : Int)]) := (Row1.arr wr 5 #[.int .u8 92, .int .u8 120, .int .u8 (x.toNat : Int), .int .u8 (y.toNat : Int)]).grow ((Upd.refl _ _).drew) (by simp)
          have H1 : Hid (∀ u ∈ [Value.int .u8 92, Value.int .u8 120, Value.int .u8 (x.toNat : Int), Value.int .u8 (y.toNat : Int)], u.oneCell' = true) := by intro u hu; simp at hu; rcases hu with rfl | rfl | rfl | rfl <;> rfl
          clear hx hy
          go_region_law (refine step_append_vals rfl (.tmp 15) (.tmp 22) 62 rfl w.heap.size 5 i0 (.int .u8 0) 1 Tryz.underlying62 hi0 hz0 hz1 hz2 rfl u3 L.length (bc L) rfl (HV.out _ U0.out) (wr.heap.size + 1) (some ⟨wr.heap.size, 0, none⟩) 4 4 [.int .u8 92, .int .u8 120, .int .u8 (x.toNat : Int), .int .u8 (y.toNat : Int)] rfl R0.out H1.out (HB.out 4 (by omega)).1 (HB.out 4 (by omega)).2 (HU.out.trans U0.out).size ?_; intro v2 w2 hO hg; have HQ := Lib.hid (own_more (k := [92, 120, x, y]) HO.out rfl HU.out U0.out rfl rfl hO hg); clear hO hg)
          go_wp2_with fail
          all_goals
            first
              | exact ⟨⟨j + 1, by omega, by simp, HN.out _ _ HQ.out.1 HQ.out.2⟩, by simp only [intOf]; omega⟩
              | trace_state
    · obtain rfl : j = s.size := by omega
      have dj : decide ((s.size : Int) < (s.size : Int)) = false := decide_eq_false (by omega)
      obtain ⟨L, hL⟩ : ∃ L, (34 : UInt8) :: (s.data.toList.take s.size).flatMap Con.escB = L := ⟨_, rfl⟩
      have HO : Hid (OwnB wr w.heap.size u3 L) := by show OwnB _ _ _ _; rw [← hL]; exact HJ.out.own
      have HU : Hid (Upd noBlock w wr) := HJ.out.up
      have hall : s.data.toList.take s.size = s.data.toList := List.take_of_length_le (by rw [HZ.out.1]; exact Nat.le_refl _)
      have HF : Hid (Con.quoteL s.data.toList = L ++ [34]) := by
        show _ = _
        unfold Con.quoteL
        rw [← hL, hall]; simp
      have HB : Hid (L.length + 1 ≤ maxLen ∧ (L.length + 1) * 1 ≤ 140737488355328) := by
        have h1 := esc_lens s.data.toList
        have h2 : L.length = 1 + (s.data.toList.flatMap Con.escB).length := by rw [← hL, hall, List.length_cons]; omega
        have := HZ.out
        show _ ∧ _
        unfold maxLen; omega
      have HV : Hid (∀ W, Upd noBlock wr W → W.ownsRow w.heap.size 5 1 u3 L.length (bc L)) := fun W h => HO.out.grow h
      have U0 : Hid (Upd noBlock wr (wr.alloc (.cells #[.int .u8 34] 5))) := (Upd.refl _ _).alloc _
      have R0 : Hid (Row1 (wr.alloc (.cells #[.int .u8 34] 5)) (wr.heap.size + 1) (some ⟨wr.heap.size, 0, none⟩) 1 [.int .u8 34]) := Row1.arr wr 5 #[.int .u8 34]
      have H1 : Hid (∀ u ∈ [Value.int .u8 34], u.oneCell' = true) := by intro u hu; simp at hu; subst hu; rfl
      clear hL hall HJ hjs
      go_wp2_with (first
        | (at_builtin; refine wpList_append_vals _ rfl (.tmp 39) (.tmp 40) _ rfl w.heap.size 5 i0 (.int .u8 0) 1 Tryz.underlying62 hi0 hz0 hz1 hz2 rfl u3 L.length (bc L) rfl (HV.out _ U0.out) (wr.heap.size + 1) (some ⟨wr.heap.size, 0, none⟩) 1 1 [.int .u8 34] rfl R0.out H1.out HB.out.1 HB.out.2 (HU.out.trans U0.out).size ?_; intro v2 w2 hO hg _; have HQ := Lib.hid (own_more (k := [34]) HO.out rfl HU.out U0.out rfl rfl hO hg); have t2 := HQ.out.1.text; clear hO hg))
      go_ret
      exact ⟨by rw [HF.out]; rfl, HQ.out.2⟩
end Go.Proofs.YthcjogigkagmdaaGreatDoor
