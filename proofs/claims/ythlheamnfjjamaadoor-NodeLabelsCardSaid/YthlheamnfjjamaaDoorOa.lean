/- Nodes, plain; isValid, flags. -/
import Derived.Test.YthlheamnfjjamaaDoorKb
import Derived.Test.YthlheamnfjjamaaDoorCe
namespace Go.Proofs.YthlheamnfjjamaaDoor
open Go.RowKit Cm
attribute [local irreducible] beZ valN
set_option linter.unusedSimpArgs false

/-- a valid node -/
def goodN (seq : Int) (gone : Bool) (k v : List UInt8) : Bool := okN seq && decide (1 ≤ k.length) && decide (k.length ≤ 64) && decide (v.length ≤ 200) && (decide (v = []) || !gone)
def flagN (gone last : Bool) : Int := (if gone then 1 else 0) + (if last then 2 else 0)
/-- its bytes, without the sum -/
def rawN (seq : Int) (gone last : Bool) (k v : List UInt8) : List UInt8 := ((([78] ++ beZ 1 (flagN gone last)) ++ beZ 8 seq) ++ (beZ 1 (k.length : Int) ++ beZ 2 (v.length : Int))) ++ k ++ v
def encN (seq : Int) (gone last : Bool) (k v : List UInt8) : List UInt8 := if goodN seq gone k v then sealed (rawN seq gone last k v) else []
theorem emp_str (l : List UInt8) : (ByteArray.mk l.toArray).toList.isEmpty = l.isEmpty := by
  rw [ByteArray.toList_eq]
theorem node_box (w w1 : World) (a b c d e : Value) (t : TypeId) (hu : Upd noBlock (w.alloc (.cells #[a, b, c, d, e] t)) w1) : w1.cell? ⟨w.heap.size, 0, none⟩ = some a ∧ w1.cell? ⟨w.heap.size, 1, none⟩ = some b ∧ w1.cell? ⟨w.heap.size, 2, none⟩ = some c ∧ w1.cell? ⟨w.heap.size, 3, none⟩ = some d ∧ w1.cell? ⟨w.heap.size, 4, none⟩ = some e :=
  have h := hu.cells (heap_alloc_new w _) (fun h => h)
  ⟨cell_of h 0, cell_of h 1, cell_of h 2, cell_of h 3, cell_of h 4⟩
set_option maxRecDepth 20000 in
set_option maxHeartbeats 3200000 in
theorem validN_any (seq : Int) (gone last : Bool) (k v : List UInt8) (w : World) (hk : k.length ≤ maxLen) (hv : v.length ≤ maxLen) :
    Calls Tryd.prog 37 #[.agg #[.int .i64 seq, .bool gone, .bool last, .string ⟨k.toArray⟩, .string ⟨v.toArray⟩]] w fun e w' => e = .returned (.bool (goodN seq gone k v)) ∧ Upd noBlock w w' := by
  obtain ⟨qk, hqk⟩ : ∃ q : ByteArray, ⟨k.toArray⟩ = q := ⟨_, rfl⟩
  obtain ⟨qv, hqv⟩ : ∃ q : ByteArray, ⟨v.toArray⟩ = q := ⟨_, rfl⟩
  have hkz : qk.size = k.length := by rw [← hqk]; rfl
  have hvz : qv.size = v.length := by rw [← hqv]; rfl
  have hKN : Hid (¬ k = [] → qk.toList.isEmpty = false) := fun h => by rw [← hqk, emp_str]; simpa using h
  have hKE : Hid (k = [] → qk = ⟨#[]⟩) := fun h => by rw [← hqk, h]
  have hVN : Hid (¬ v = [] → qv.toList.isEmpty = false) := fun h => by rw [← hqv, emp_str]; simpa using h
  have hVE : Hid (v = [] → qv = ⟨#[]⟩) := fun h => by rw [← hqv, h]
  have hn1 : k.length ≤ 9223372036854775807 := by unfold maxLen at hk; omega
  have hn2 : v.length ≤ 9223372036854775807 := by unfold maxLen at hv; omega
  rw [hqk, hqv]
  have HB : Hid (Upd noBlock w (w.alloc (.cells #[.int .i64 seq, .bool gone, .bool last, .string qk, .string qv] 26))) := (Upd.refl _ _).alloc _
  have HC := Lib.hid (fun w1 h => (node_box w w1 (.int .i64 seq) (.bool gone) (.bool last) (.string qk) (.string qv) 26 h).2)
  have HV := Valid1A seq (w.alloc (.cells #[.int .i64 seq, .bool gone, .bool last, .string qk, .string qv] 26))
  rw [World.size_alloc] at HV
  replace HV := Lib.hid HV
  clear hqk hqv hk hv
  cases h0 : okN seq with
  | false =>
    rw [h0] at HV
    have hg : goodN seq gone k v = false := by simp [goodN, h0]
    rw [hg]
    clear hg
    go_enter Tryd.func37, Tryd.ntmps37
    go_wp2_with (go_at_call 47; with_reducible refine HV.out.mono ?_; rintro e w1 ⟨rfl, h⟩; have HA := Lib.hid (HB.out.trans h); obtain ⟨c1, c2, c3, c4⟩ := HC.out _ h; clear h)
    go_ret
    exact ⟨rfl, HA.out⟩
  | true =>
    rw [h0] at HV
    by_cases hke : k = []
    · have e1 := hKE.out hke
      subst e1
      have hg : goodN seq gone k v = false := by simp [goodN, hke]
      rw [hg]
      clear hg
      go_enter Tryd.func37, Tryd.ntmps37
      go_wp2_with (go_at_call 47; with_reducible refine HV.out.mono ?_; rintro e w1 ⟨rfl, h⟩; have HA := Lib.hid (HB.out.trans h); obtain ⟨c1, c2, c3, c4⟩ := HC.out _ h; clear h)
      go_ret
      exact ⟨rfl, HA.out⟩
    have hk1 : 1 ≤ k.length := List.length_pos_iff.2 hke
    have e1 := hKN.out hke
    by_cases hk2 : k.length ≤ 64
    · by_cases hv2 : v.length ≤ 200
      · by_cases hve : v = []
        · have e2 := hVE.out hve
          subst e2
          have hg : goodN seq gone k v = true := by simp [goodN, h0, hk1, hk2, hve]
          rw [hg]
          clear hg
          go_enter Tryd.func37, Tryd.ntmps37
          go_wp2_with (go_at_call 47; with_reducible refine HV.out.mono ?_; rintro e w1 ⟨rfl, h⟩; have HA := Lib.hid (HB.out.trans h); obtain ⟨c1, c2, c3, c4⟩ := HC.out _ h; clear h)
          go_ret
          exact ⟨rfl, HA.out⟩
        · have e2 := hVN.out hve
          have hg : goodN seq gone k v = !gone := by simp [goodN, h0, hk1, hk2, hve, hv2]
          rw [hg]
          clear hg
          go_enter Tryd.func37, Tryd.ntmps37
          go_wp2_with (go_at_call 47; with_reducible refine HV.out.mono ?_; rintro e w1 ⟨rfl, h⟩; have HA := Lib.hid (HB.out.trans h); obtain ⟨c1, c2, c3, c4⟩ := HC.out _ h; clear h)
          go_ret
          exact ⟨rfl, HA.out⟩
      · have hg : goodN seq gone k v = false := by simp [goodN, hv2]
        rw [hg]
        clear hg
        go_enter Tryd.func37, Tryd.ntmps37
        go_wp2_with (go_at_call 47; with_reducible refine HV.out.mono ?_; rintro e w1 ⟨rfl, h⟩; have HA := Lib.hid (HB.out.trans h); obtain ⟨c1, c2, c3, c4⟩ := HC.out _ h; clear h)
        go_ret
        exact ⟨rfl, HA.out⟩
    · have hg : goodN seq gone k v = false := by simp [goodN, hk2]
      rw [hg]
      clear hg
      go_enter Tryd.func37, Tryd.ntmps37
      go_wp2_with (go_at_call 47; with_reducible refine HV.out.mono ?_; rintro e w1 ⟨rfl, h⟩; have HA := Lib.hid (HB.out.trans h); obtain ⟨c1, c2, c3, c4⟩ := HC.out _ h; clear h)
      go_ret
      exact ⟨rfl, HA.out⟩
set_option maxRecDepth 20000 in
theorem flags_any (seq : Int) (gone last : Bool) (qk qv : ByteArray) (w : World) :
    Calls Tryd.prog 39 #[.agg #[.int .i64 seq, .bool gone, .bool last, .string qk, .string qv]] w fun e w' => e = .returned (.int .i64 (flagN gone last)) ∧ Upd noBlock w w' := by
  have HB : Hid (Upd noBlock w (w.alloc (.cells #[.int .i64 seq, .bool gone, .bool last, .string qk, .string qv] 26))) := (Upd.refl _ _).alloc _
  rcases gone with _ | _ <;> rcases last with _ | _
  all_goals
    go_enter Tryd.func39, Tryd.ntmps39
    go_wp2
    go_ret
    exact ⟨rfl, HB.out⟩
end Go.Proofs.YthlheamnfjjamaaDoor
