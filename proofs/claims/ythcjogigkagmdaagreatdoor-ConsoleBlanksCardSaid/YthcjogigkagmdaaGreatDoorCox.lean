/- speaks: a small script, and a word that is none. -/
import Derived.Test.YthcjogigkagmdaaGreatDoorCow
namespace Go.Proofs.YthcjogigkagmdaaGreatDoor
open Go.RowKit
set_option linter.unusedVariables false

def sp1T : ByteArray := ⟨#[103, 101, 111, 109, 101, 116, 114, 121, 32, 49, 50, 32, 49, 54, 32, 50, 32, 49, 50, 56, 32, 49, 10, 109, 107, 100, 105, 114, 32, 47, 97, 10]⟩
def sp2T : ByteArray := ⟨#[102, 114, 111, 98, 10]⟩
theorem sp1L : ((Con.parseL sp1T.data.toList).1.nums, (Con.parseL sp1T.data.toList).1.acts.map (fun a => (a.kind, a.path.data.toList, a.dest.data.toList)), (Con.parseL sp1T.data.toList).2) = ([12, 16, 2, 128, 1], [(1, [47, 97], [])], 0, 0) := by decide
theorem sp2L : ((Con.parseL sp2T.data.toList).1.nums, (Con.parseL sp2T.data.toList).1.acts.length, (Con.parseL sp2T.data.toList).2) = ([0, 0, 0, 0, 0], 0, 140, 1) := by decide
theorem own_cells {w : World} {B : Nat} {e : TypeId} {n m : Nat} {v : Value} {xs : List Value} (h : w.ownsRow B e n v m xs) (hm : 0 < m) :
    ∃ g c, v = .slice (some ⟨g, 0, none⟩) m c ∧ B ≤ g ∧ g < w.heap.size ∧ ∀ i u, xs[i]? = some u → w.cell? ⟨g, i, none⟩ = some u := by
  obtain ⟨hl, h⟩ := h
  rcases h with ⟨h1, h2⟩ | ⟨g, cap, cur, rfl, hb, hg, hnc, hcap, r⟩
  · omega
  · refine ⟨g, cap, rfl, hb, lt_of_block hg, fun i u hu => ?_⟩
    rw [cell_of hg, ← Array.getElem?_toList, ← hu, ← r.2]
    rw [List.getElem?_take, if_pos]
    have := (List.getElem?_eq_some_iff.1 hu).1
    rw [hl] at this
    exact this
theorem sp1_any (w : World) (hg : Gl w) : Calls Tryz.prog 10 #[.string ⟨#[103, 101, 111, 109, 101, 116, 114, 121, 32, 49, 50, 32, 49, 54, 32, 50, 32, 49, 50, 56, 32, 49, 10, 109, 107, 100, 105, 114, 32, 47, 97, 10]⟩] w fun e w' =>
    ∃ g c, e = .returned (.tuple #[.agg #[.int .i64 12, .int .i64 16, .int .i64 2, .int .i64 128, .int .i64 1, .slice (some ⟨g, 0, none⟩) 1 c], .agg #[.int .i64 0, .int .i64 0]]) ∧ w'.cell? ⟨g, 1, none⟩ = some (.string ⟨#[47, 97]⟩) ∧ Upd noBlock w w' := by
  refine (parse_any sp1T w hg (by decide)).mono ?_
  rintro e w' ⟨g1, g2, g3, g4, g5, a, m, c, rfl, hs, hm, hu⟩
  have hL := sp1L
  obtain ⟨s, hs1⟩ : ∃ s, Con.parseL sp1T.data.toList = s := ⟨_, rfl⟩
  rw [hs1] at hL hs ⊢
  simp only [Prod.mk.injEq] at hL
  obtain ⟨h1, h2, h3⟩ := hL
  obtain ⟨x, hx⟩ := List.length_eq_one_iff.1 (by simpa using congrArg List.length h2 : s.1.acts.length = 1)
  rw [hx] at h2
  simp only [List.map_cons, List.map_nil, List.cons.injEq, Prod.mk.injEq, and_true] at h2
  have hn := hs.nums
  rw [h1] at hn
  simp only [List.cons.injEq, and_true] at hn
  obtain ⟨rfl, rfl, rfl, rfl, rfl⟩ := hn
  have hl := hs.len
  rw [hx] at hl
  subst hl
  obtain ⟨g, c', hv, _, _, hc⟩ := own_cells hs.acts (by simp)
  cases hv
  refine ⟨g, c, ?_, ?_, hu⟩
  · rw [h3]; rfl
  · refine hc 1 _ ?_
    rw [hx]
    have hp : x.path = ⟨#[47, 97]⟩ := by
      have := h2.2.1
      match hq : x.path with
      | ⟨⟨d⟩⟩ => rw [hq] at this; exact congrArg (fun d => ByteArray.mk ⟨d⟩) this
    rw [← hp]; rfl
theorem sp2_any (w : World) (hg : Gl w) : Calls Tryz.prog 10 #[.string ⟨#[102, 114, 111, 98, 10]⟩] w fun e w' =>
    ∃ a m c, e = .returned (.tuple #[.agg #[.int .i64 0, .int .i64 0, .int .i64 0, .int .i64 0, .int .i64 0, .slice a m c], .agg #[.int .i64 140, .int .i64 1]]) ∧ Upd noBlock w w' := by
  refine (parse_any sp2T w hg (by decide)).mono ?_
  rintro e w' ⟨g1, g2, g3, g4, g5, a, m, c, rfl, hs, hm, hu⟩
  have hL := sp2L
  obtain ⟨s, hs1⟩ : ∃ s, Con.parseL sp2T.data.toList = s := ⟨_, rfl⟩
  rw [hs1] at hL hs ⊢
  simp only [Prod.mk.injEq] at hL
  obtain ⟨h1, h2, h3⟩ := hL
  have hn := hs.nums
  rw [h1] at hn
  simp only [List.cons.injEq, and_true] at hn
  obtain ⟨rfl, rfl, rfl, rfl, rfl⟩ := hn
  exact ⟨a, m, c, by rw [h3]; rfl, hu⟩
set_option maxRecDepth 100000 in
set_option maxHeartbeats 1600000 in
theorem speaks_any (w : World) (hg : Gl w) : Calls Tryz.prog 9 #[] w fun e w' => e = .returned (.bool true) ∧ Upd noBlock w w' := by
  have H1 := Lib.hid (sp1_any w hg)
  have HG := Lib.hid (fun w' (h : Upd noBlock w w') => sp2_any w' (hg.grow h))
  have HU0 := Lib.hid (Upd.refl noBlock w)
  clear hg
  go_enter Tryz.func9, Tryz.ntmps9
  go_wp2_with fail
  refine H1.out.mono ?_
  rintro e w1 ⟨g, c, rfl, hp, hu⟩
  have hgl := World.block_lt_of_cell? w1 _ hp
  obtain ⟨w2, hw2⟩ : ∃ w2, ((w1.alloc (.cells #[.int .i64 12, .int .i64 16, .int .i64 2, .int .i64 128, .int .i64 1, .slice (some ⟨g, 0, none⟩) 1 c] 27)).alloc (.cells #[.int .i64 0, .int .i64 0] 30)) = w2 := ⟨_, rfl⟩
  have e2 : w2.heap.size = w1.heap.size + 1 + 1 := by rw [← hw2]; simp
  have U12 : Upd noBlock w1 w2 := by rw [← hw2]; exact ((Upd.refl _ _).alloc _).alloc _
  have b1 : w2.heap[w1.heap.size]? = some (.cells (scrC 12 16 2 128 1 (.slice (some ⟨g, 0, none⟩) 1 c)) 27 (0, 0)) := by rw [← hw2]; exact block_alloc (heap_alloc_new w1 _) _
  have b2 : w2.heap[w1.heap.size + 1]? = some (.cells (fauC 0 0) 30 (0, 0)) := by
    rw [← hw2]
    have h9 := heap_alloc_new (w1.alloc (.cells #[.int .i64 12, .int .i64 16, .int .i64 2, .int .i64 128, .int .i64 1, .slice (some ⟨g, 0, none⟩) 1 c] 27)) (.cells #[.int .i64 0, .int .i64 0] 30)
    simpa [fauC] using h9
  have HB1 := Lib.hid b1
  have HB2 := Lib.hid b2
  have HP := Lib.hid (upd_cell U12 hp)
  have U2 := Lib.hid (hu.trans U12)
  have HW2 := Lib.hid e2
  have HWE := Lib.hid hw2
  clear hp hu U12 b1 b2 e2 H1 hw2
  go_wp2_with fail
  rw [HWE.out]
  refine (HG.out _ U2.out).mono ?_
  rintro e w3 ⟨a, m, c2, rfl, hu3⟩
  obtain ⟨⟨s0, s1, s2, s3, s4, s5⟩, _⟩ := scr_cells (hu3.cells HB1.out (fun h => h))
  obtain ⟨⟨f0, f1⟩, _⟩ := fau_cells (hu3.cells HB2.out (fun h => h))
  have hp3 := upd_cell hu3 HP.out
  have AL : ∀ (b i : Nat) (v : Value) (o1 o2 : Obj), w3.cell? ⟨b, i, none⟩ = some v → ((w3.alloc o1).alloc o2).cell? ⟨b, i, none⟩ = some v := fun b i v o1 o2 h => upd_cell (((Upd.refl noBlock w3).alloc o1).alloc o2) h
  have q0 := fun o1 o2 => AL _ _ _ o1 o2 s0
  have q1 := fun o1 o2 => AL _ _ _ o1 o2 s1
  have q2 := fun o1 o2 => AL _ _ _ o1 o2 s2
  have q3 := fun o1 o2 => AL _ _ _ o1 o2 s3
  have q4 := fun o1 o2 => AL _ _ _ o1 o2 s4
  have q5 := fun o1 o2 => AL _ _ _ o1 o2 s5
  have q6 := fun o1 o2 => AL _ _ _ o1 o2 f0
  have q7 := fun o1 o2 => AL _ _ _ o1 o2 f1
  have q8 := fun o1 o2 => AL _ _ _ o1 o2 hp3
  clear AL s0 s1 s2 s3 s4 s5 f0 f1 hp3
  have HU3 := Lib.hid (U2.out.trans hu3)
  clear hu3
  go_wp2
  go_ret
  exact ⟨rfl, (HU3.out.alloc _).alloc _⟩
end Go.Proofs.YthcjogigkagmdaaGreatDoor
