/- append of a slice of int onto an empty slice of a named type; copied; Same. -/
import Derived.Test.YtpfmdlmnmagkmaaPf
import Derived.Deep.AppendSrc
namespace Go.Proofs.Ytpfmdlmnmagkmaa
open Go.RowKit Pm

set_option maxRecDepth 20000 in
set_option maxHeartbeats 800000 in
/-- two lists that read alike are told alike -/
theorem same_yes (a : Option Addr) (n cap B : Nat) (a' : Option Addr) (cap' B' : Nat) (xs : List Int) (w : World) (hr : Ints w B a n xs) (hr' : Ints w B' a' n xs) (hm : n ≤ maxLen) :
    Calls Try.prog 37 #[.slice a n cap, .slice a' n cap'] w fun e w' => e = .returned (.bool true) ∧ Upd noBlock w w' := by
  have hcap : n ≤ 9223372036854775807 := by unfold maxLen at hm; omega
  have HR := Lib.hid hr
  have HR' := Lib.hid hr'
  clear hr hr' hm
  go_enter Try.func37, Try.ntmps37
  go_wp2
  go_loopw [5] (fun i wr => ∃ k : Nat, k ≤ n ∧ i = .int .i64 (k : Int) ∧ Hid (Ints wr B a n xs) ∧ Hid (Ints wr B' a' n xs) ∧ Hid (Upd noBlock w wr)) (fun i _ => n - (intOf i).toNat)
  case atStart => exact ⟨0, Nat.zero_le _, rfl, HR, HR', Upd.refl _ _⟩
  case round =>
    clear HR HR'
    obtain ⟨k, hk, rfl, HR, HS, HU⟩ := hrel
    by_cases h0 : k < n
    · obtain ⟨g, off, rfl, _, hc1⟩ := HR.out.cell (by omega)
      obtain ⟨g', off', rfl, _, hc2⟩ := HS.out.cell (by omega)
      have c1 := hc1 k h0
      have c2 := hc2 k h0
      generalize xs.getD k 0 = z at c1 c2
      clear hc1 hc2
      go_wp2
      go_quiet (fail)
      go_wp2
      go_roundw
      case rel => exact ⟨k + 1, by omega, by go_num, HR, HS, HU.out.drewN _⟩
      case measure => simp [intOf]; omega
    · obtain rfl : k = n := by omega
      go_wp2
      go_ret
      exact ⟨rfl, HU.out⟩

section
variable {P : Program} (w : World)
theorem run_copy_ints (t tx ty e : TypeId) (i : TypeInfo) (z : Value) (ht : P.underlying t = some (.slice e)) (htx : P.underlying tx = some (.slice e)) (hi : P.info? e = some i) (hz : i.zero = some z)
    (hsize : i.size = 1) (hby : i.bytes = 8) (hzs : z.cells.size = 1) (base g : Nat) (hbase : base ≤ g) (hg : w.heap[g]? = some (.cells #[] e (0, 0)))
    (B : Nat) (A : Option Addr) (m c : Nat) (xs : List Int) (hr : Ints w B A m xs) (hm : m ≤ maxLen) (hbytes : m * 8 ≤ 140737488355328) :
    ∃ v' w', (Builtin.append_ #[t, tx] ty #[.slice (some ⟨g, 0, none⟩) 0 0, .slice A m c]).run P w = .ok v' w' ∧ w'.ownsRow base e 1 v' m (vals xs) ∧ Upd noBlock w w' := by
  have hl : (vals xs).length = m * i.size := by rw [vals, List.length_map, hr.1, hsize, Nat.mul_one]
  have hgl := lt_of_block hg
  rcases Nat.eq_zero_or_pos m with h0 | h0
  · subst h0
    have hn : xs = [] := List.eq_nil_of_length_eq_zero hr.1
    subst hn
    refine ⟨.slice (some ⟨g, 0, none⟩) 0 0, w, ?_, ⟨rfl, .inr ⟨g, 0, #[], rfl, hbase, hg, Nat.le_refl _, Nat.zero_le _, rfl, rfl⟩⟩, Upd.refl _ _⟩
    have hs : Src P i.size tx (.slice A 0 c) 0 [] w := by
      rcases A with _ | ad
      · exact Src.ofNil w htx c
      · exact Src.ofSlice w htx ad 0 c [] (by simp) (fun j u hu => by simp at hu) (fun u hu => by cases hu)
    have := run_append_room_src (P := P) w t tx ty e i ht hi g 0 0 0 (.slice A 0 c) 0 [] hs (Nat.le_refl _) (fun j hj => absurd hj (by simp)) (fun j hj => absurd hj (by simp))
    simpa [World.setCells] using this
  · obtain ⟨g', off, rfl, hgB, hc⟩ := hr.2 h0
    have hs : Src P i.size tx (.slice (some ⟨g', off, none⟩) m c) m (vals xs) w := Src.ofSlice w htx ⟨g', off, none⟩ m c (vals xs) hl (fun j u hu => by
      have hj : j < m := by
        have := (List.getElem?_eq_some_iff.1 hu).1
        rw [hl, hsize] at this; omega
      have h2 := hc j hj
      have e1 : u = .int .i64 (xs.getD j 0) := by
        rw [vals, List.getElem?_map] at hu
        rw [List.getD_eq_getElem?_getD]
        cases hx : xs[j]? with
        | none => rw [hx] at hu; cases hu
        | some y => rw [hx] at hu; simpa using hu.symm
      rw [e1, ← h2]
      by_cases e0 : j = 0
      · subst e0; simp [Addr.add]
      · simp [Addr.add, e0]) (vals_one xs)
    have hnext : Builtin.nextslicecap (0 + m) 0 = m := by
      unfold Builtin.nextslicecap
      simp
      omega
    have hcap := grownCap_ge w (0 + m) 0 e
    have hcap2 := grownCap_le_maxLen w (0 + m) 0 e (by omega)
    have hrun := run_append_grow_src (P := P) w t tx ty e i z ht hi hz (some ⟨g, 0, none⟩) 0 0 [] (by simpa using run_firstCells_some w.drew i.size 0 ⟨g, 0, none⟩ 0 0 [] (by simp) (fun j u hu => by simp at hu)) (.slice (some ⟨g', off, none⟩) m c) m (vals xs) hs (by omega) (by unfold maxLen at hm; omega) (by rw [hnext, hby]; omega)
    simp only [Nat.zero_add, List.nil_append] at hrun hcap hcap2
    generalize grownCap w m 0 e = cap at hrun hcap hcap2
    refine ⟨_, _, hrun, ⟨by rw [hl, hsize], .inr ⟨w.heap.size, cap, _, rfl, by omega, heap_alloc_new w.drew _, hcap, hcap2, ?_, ?_⟩⟩, ((Upd.refl noBlock w).drew).alloc _⟩
    · rw [Array.size_append, size_zeroCells, hzs]
      simp only [List.size_toArray, hl, hsize]
      omega
    · rw [Array.toList_append, List.take_append_of_le_length (by simp [hl, hsize])]
      exact List.take_of_length_le (by simp [hl, hsize])

theorem wpList_copy_ints {ops : Array Oper} {rest : List Oper} {o : Oper} {a : Act} {Q : Exit → Act → World → Prop} (hgd : o.guard = none) (s x : Operand) (t tx : TypeId)
    (ho : o.op = .call { callee := .builtin .append, args := #[s, x], argTypes := #[t, tx] })
    (e : TypeId) (i : TypeInfo) (z : Value) (ht : P.underlying t = some (.slice e)) (htx : P.underlying tx = some (.slice e)) (hi : P.info? e = some i) (hz : i.zero = some z)
    (hsize : i.size = 1) (hby : i.bytes = 8) (hzs : z.cells.size = 1) (base g : Nat) (hbase : base ≤ g) (hg : w.heap[g]? = some (.cells #[] e (0, 0))) (hs : a.eval s = .slice (some ⟨g, 0, none⟩) 0 0)
    (B : Nat) (A : Option Addr) (m c : Nat) (xs : List Int) (hx : a.eval x = .slice A m c) (hr : Ints w B A m xs) (hm : m ≤ maxLen) (hbytes : m * 8 ≤ 140737488355328)
    (h : ∀ v' w', w'.ownsRow base e 1 v' m (vals xs) → Upd noBlock w w' → wpList P ops Q rest (a.put o.dst v') w') : wpList P ops Q (o :: rest) a w :=
  wpList_plain hgd fun _ hK => by
    obtain ⟨v', w', hrun, h2, h3⟩ := run_copy_ints (P := P) w t tx o.type e i z ht htx hi hz hsize hby hzs base g hbase hg B A m c xs hr hm hbytes
    unfold Oper.wp execOp
    simp only [ho, resolve, invoke, builtin, Sem.run_bind, Sem.run_pure, Result.andThen_ok, List.map_toArray, List.map_cons, List.map_nil, hs, hx, hrun]
    exact hK _ _ (h v' w' h2 h3)
end

end Go.Proofs.Ytpfmdlmnmagkmaa
