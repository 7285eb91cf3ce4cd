/- strings.IndexAny of a blank or a quote, of any text: the whole. -/
import Derived.Test.YthcjogigkagmdaaGreatDoorCom
import Derived.Lib.OthersKept
namespace Go.Proofs.YthcjogigkagmdaaGreatDoor
open Go.RowKit
set_option linter.unusedVariables false

/-- what holds ahead of each round -/
structure IX (w wx : World) (s : ByteArray) (i : Nat) : Prop where
  it : wx.heap[w.heap.size]? = some (.stringIter s i)
  up : Upd noBlock w wx
  no : Lib.NoAny s.data.toList [32, 34] i
theorem IX.move {w wx : World} {s : ByteArray} {i : Nat} (h : IX w wx s i) (j : Nat) : Upd noBlock w (wx.iterAt w.heap.size s j) := by
  have h9 : Upd (oneBlock w.heap.size) wx (wx.iterAt w.heap.size s j) := ⟨rfl, rfl, rfl, by rw [Lib.iterAt_size]; exact Nat.le_refl _, fun k hk hn => Lib.iterAt_other wx _ k s j hn⟩
  exact h.up.step h9 (fun k hk e => absurd e (by unfold oneBlock; omega))
theorem IX.next {w wx : World} {s : ByteArray} {i : Nat} (h : IX w wx s i) (j : Nat) (hn : Lib.NoAny s.data.toList [32, 34] j) : IX w (wx.iterAt w.heap.size s j) s j where
  it := Lib.iterAt_heap wx _ s i j h.it
  up := h.move j
  no := hn
theorem IX.more {w wx w' : World} {s : ByteArray} {i : Nat} (h : IX w wx s i) (hu : Upd noBlock wx w') : IX w w' s i :=
  ⟨(hu.block _ (lt_of_block h.it) (fun h => h)).trans h.it, h.up.trans hu, h.no⟩
theorem get_data (s : ByteArray) (i : Nat) (hi : i < s.size) : s.data.toList[i]? = some (s[i]'hi) := Lib.data_getElem? s i hi
theorem bang_at (s : ByteArray) (i : Nat) (hi : i < s.size) : s.get! i = s[i]'hi := by
  have := get_at s i hi
  simpa using this
theorem noAny_span {s : ByteArray} {i : Nat} (h : Lib.NoAny s.data.toList [32, 34] i) (hi : i < s.size) (ha : 128 ≤ (s[i]'hi).toNat) : Lib.NoAny s.data.toList [32, 34] (i + (Utf8.decode s i).2) := fun j b hj hb => by
  by_cases hlt : j < i
  · exact h j b hlt hb
  · have hjs : j < s.size := by have := decode_in s i hi ha; omega
    have h1 := decode_span s i hi ha (j - i) (by omega)
    rw [show i + (j - i) = j by omega, bang_at s j hjs] at h1
    rw [get_data s j hjs] at hb
    cases hb
    have n1 : s[j]'hjs ≠ 32 := by intro e; rw [e] at h1; revert h1; decide
    have n2 : s[j]'hjs ≠ 34 := by intro e; rw [e] at h1; revert h1; decide
    simp [n1, n2]
set_option maxRecDepth 100000 in
set_option maxHeartbeats 1600000 in
theorem indexAny_short (s : ByteArray) (h8 : s.size ≤ 8) (w : World) :
    Calls Tryz.prog 83 #[.string s, .string ⟨#[32, 34]⟩] w fun e w' => e = .returned (.int .i64 (Lib.indexAny s.data.toList [32, 34])) ∧ Upd noBlock w w' := by
  have HSU : Hid (∀ W, Calls Tryz.prog 100 #[.int .i64 (s.size : Int)] W fun e w' => e = .returned (.bool false) ∧ w' = W) := fun W => by
    have := Tryz.strings_shouldUseASCIISet (s.size : Int) W
    rwa [decide_eq_false (by omega : ¬ (8 : Int) < (s.size : Int))] at this
  have H0 : Hid (IX w (w.iter s 0) s 0) := ⟨World.iter_heap w s 0, (Upd.refl _ _).alloc _, Lib.NoAny.zero _ _⟩
  go_enter Tryz.func83, Tryz.ntmps83
  go_wp2_with (go_at_call 100; (with_reducible refine (HSU.out _).mono ?_); rintro e w1 ⟨rfl, hw⟩; obtain rfl := hw.symm)
  go_loopg [9, 10] s.size (fun g _ _ wr => ∃ i : Nat, i + g = s.size ∧ Hid (IX w wr s i))
  case atStart => exact ⟨0, by omega, H0⟩
  case round =>
    clear H0
    obtain ⟨i, hig, HJ⟩ := hrel
    have hJ := HJ.out
    by_cases hi : i < s.size
    · obtain ⟨x, hx⟩ : ∃ x, s[i]'hi = x := ⟨_, rfl⟩
      have hxl : s.data.toList[i]? = some x := by rw [← hx]; exact get_data s i hi
      by_cases ha : x.toNat < 128
      · have hnx := fun ty => Lib.run_next_ascii_at (P := Tryz.prog) wr w.heap.size s i ty hJ.it hi (by rw [hx]; exact ha)
        rw [hx] at hnx
        have hIR : ∀ W, Calls Tryz.prog 99 #[.string ⟨#[32, 34]⟩, .int .i32 (x.toNat : Int)] W fun e w' => e = .returned (.int .i64 (Lib.indexByte [32, 34] x)) ∧ w' = W := fun W => by
          have h9 := Tryz.strings_IndexRune_ascii ⟨#[32, 34]⟩ (x.toNat : Int) W (by omega) (by omega)
          have e2 : ((x.toNat : Int).toNat).toUInt8 = x := by rw [Int.toNat_natCast]; simp
          rwa [e2] at h9
        have HIR := Lib.hid hIR
        cases hin : ([32, 34] : List UInt8).contains x with
        | false =>
          have hlt : Lib.indexByte [32, 34] x = -1 := by
            simp at hin
            have e1 : ((32 : UInt8) == x) = false := by rw [beq_eq_false_iff_ne]; exact fun e => hin.1 e.symm
            have e2 : ((34 : UInt8) == x) = false := by rw [beq_eq_false_iff_ne]; exact fun e => hin.2 e.symm
            simp [Lib.indexByte, e1, e2]
          rw [hlt] at HIR
          have HN : Hid (IX w (wr.iterAt w.heap.size s (i + 1)) s (i + 1)) := hJ.next (i + 1) (hJ.no.succ hxl hin)
          clear hJ HJ hxl hx hlt hin hIR
          go_wp2_with (go_at_call 99; (with_reducible refine (HIR.out _).mono ?_); rintro e w2 ⟨rfl, hw⟩; obtain rfl := hw.symm)
          go_roundg (s.size - (i + 1))
          case measure => omega
          case rel => exact ⟨i + 1, by omega, HN⟩
        | true =>
          have HF : Hid (Lib.indexAny s.data.toList [32, 34] = i) := Lib.indexAny_hit hJ.no hxl hin
          have HN : Hid (Upd noBlock w (wr.iterAt w.heap.size s (i + 1))) := hJ.move (i + 1)
          have hge : 0 ≤ Lib.indexByte [32, 34] x := by
            simp at hin
            rcases hin with rfl | rfl <;> decide
          obtain ⟨m, hm⟩ : ∃ m : Int, Lib.indexByte [32, 34] x = m := ⟨_, rfl⟩
          rw [hm] at HIR hge
          have hge' : decide ((0 : Int) ≤ m) = true := decide_eq_true hge
          clear hJ HJ hxl hx hin hIR hm
          go_wp2_with (go_at_call 99; (with_reducible refine (HIR.out _).mono ?_); rintro e w2 ⟨rfl, hw⟩; obtain rfl := hw.symm)
          go_ret
          exact ⟨by rw [HF.out]; rfl, HN.out⟩
      · have ha' : 128 ≤ (s[i]'hi).toNat := by rw [hx]; omega
        have hnx := fun ty => Lib.run_next_any_at (P := Tryz.prog) wr w.heap.size s i ty hJ.it hi
        have hd := decode_high s i hi ha'
        have hl := decode_le s i
        have hin := decode_in s i hi ha'
        have HN : Hid (IX w (wr.iterAt w.heap.size s (i + (Utf8.decode s i).2)) s (i + (Utf8.decode s i).2)) := hJ.next _ (noAny_span hJ.no hi ha')
        obtain ⟨r, hr⟩ : ∃ r, (Utf8.decode s i).1 = r := ⟨_, rfl⟩
        obtain ⟨k, hk⟩ : ∃ k, (Utf8.decode s i).2 = k := ⟨_, rfl⟩
        rw [hr, hk] at hnx
        rw [hr, hk] at hd
        rw [hr] at hl
        rw [hk] at hin HN
        have HIR := Lib.hid (fun W => indexRune_high (r : Int) (by omega) (by omega) W)
        clear hJ HJ hxl hx ha ha' hr hk
        go_wp2_with (go_at_call 99; (with_reducible refine (HIR.out _).mono ?_); rintro e w2 ⟨rfl, hw⟩; have HN2 := Lib.hid (HN.out.more hw); clear hw)
        go_roundg (s.size - (i + k))
        case measure => omega
        case rel => exact ⟨i + k, by omega, HN2⟩
    · obtain rfl : i = s.size := by omega
      have hnx := fun ty => Lib.run_next_end_at (P := Tryz.prog) wr w.heap.size s s.size ty hJ.it hi
      have HF : Hid (Lib.indexAny s.data.toList [32, 34] = -1) := Lib.indexAny_none (by rw [← Lib.size_eq]; exact hJ.no)
      have HU := Lib.hid hJ.up
      clear hJ HJ
      go_wp2
      go_ret
      exact ⟨by rw [HF.out]; rfl, HU.out⟩
theorem set_zero : ∀ w, (zeroValue 175).run Tryz.prog w = .ok (.agg (Array.replicate 256 (.bool false))) w := fun w => by kernel_rfl
theorem indexAny_any (s : ByteArray) (hs : s.size ≤ 1048576) (w : World) :
    Calls Tryz.prog 83 #[.string s, .string ⟨#[32, 34]⟩] w fun e w' => e = .returned (.int .i64 (Lib.indexAny s.data.toList [32, 34])) ∧ Upd noBlock w w' := by
  by_cases h8 : s.size ≤ 8
  · exact indexAny_short s h8 w
  · exact (Tryz.strings_IndexAny_long set_zero s ⟨#[32, 34]⟩ w (by decide) (by omega) (by omega) (by decide) (fun j b hb => by
      have hb' : ([32, 34] : List UInt8)[j]? = some b := hb
      have hm := List.mem_of_getElem? hb'
      simp at hm
      rcases hm with rfl | rfl <;> decide)).mono fun e w' ⟨he, hw⟩ => ⟨he, by rw [hw]; exact ((Upd.refl _ _).alloc _).alloc _⟩
end Go.Proofs.YthcjogigkagmdaaGreatDoor
