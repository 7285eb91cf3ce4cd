/- KeyNames. -/
import Derived.Test.YtbnnkpnhfjkdpaaKj
import Derived.Test.YtbnnkpnhfjkdpaaKm
import Derived.Test.YtbnnkpnhfjkdpaaAr
import Derived.Laws.Cover1
namespace Go.Proofs.Ytbnnkpnhfjkdpaa
open Go.RowKit
attribute [local irreducible] beZ valN

theorem good_inode (n : Int) (h0 : 0 ≤ n) (h1 : n ≤ 1099511627776) : goodK n 1 [] 0 = true := by simp [goodK, okN, restOk, h0, h1]
theorem good_data (n p : Int) (h0 : 0 ≤ n) (h1 : n ≤ 1099511627776) (h2 : 0 ≤ p) (h3 : p ≤ 4294967295) : goodK n 3 [] p = true := by simp [goodK, okN, restOk, h0, h1, h2, h3]
theorem name_facts (W0 W : World) (K : Array Value) (t : TypeId) (h : Upd noBlock (W0.alloc (.cells K t)) W) : (∀ i, W.cell? ⟨W0.heap.size, i, none⟩ = K[i]?) :=
  fun i => cell_of (h.cells (heap_alloc_new W0 _) (fun h => h)) i
/-- what the law looks at, of a number and a piece -/
structure NF (n n1 p : Int) (l0 l1 : List UInt8) (qi qp qn qa qb q0 q1 : ByteArray) (g0 g1 B : Bool) : Prop where
  ci : ∀ W : World, Calls Try.prog 10 #[.agg #[.int .i64 n, .int .i64 1, .string ⟨#[]⟩, .int .i64 0]] W fun e w' => e = .returned (.tuple #[.string qi, .bool true]) ∧ Upd noBlock W w'
  cp : ∀ W : World, Calls Try.prog 10 #[.agg #[.int .i64 n, .int .i64 3, .string ⟨#[]⟩, .int .i64 p]] W fun e w' => e = .returned (.tuple #[.string qp, .bool true]) ∧ Upd noBlock W w'
  cn : ∀ W : World, Calls Try.prog 10 #[.agg #[.int .i64 n1, .int .i64 1, .string ⟨#[]⟩, .int .i64 0]] W fun e w' => e = .returned (.tuple #[.string qn, .bool true]) ∧ Upd noBlock W w'
  ca : ∀ W : World, Calls Try.prog 10 #[.agg #[.int .i64 n, .int .i64 2, .string q0, .int .i64 0]] W fun e w' => e = .returned (.tuple #[.string qa, .bool g0]) ∧ Upd noBlock W w'
  cb : ∀ W : World, Calls Try.prog 10 #[.agg #[.int .i64 n, .int .i64 2, .string q1, .int .i64 0]] W fun e w' => e = .returned (.tuple #[.string qb, .bool g1]) ∧ Upd noBlock W w'
  ip : Op.bytesLess qi.toList qp.toList = true
  pn : Op.bytesLess qp.toList qn.toList = true
  ie : qi.toList.isEmpty = false
  ai : g0 = true → Op.bytesLess qa.toList qi.toList = false ∧ (qa.toList == qi.toList) = false ∧ Op.bytesLess qa.toList qp.toList = true
  bi : g1 = true → Op.bytesLess qb.toList qi.toList = false ∧ (qb.toList == qi.toList) = false ∧ Op.bytesLess qb.toList qp.toList = true
  ab : g0 = true → g1 = true → Op.bytesLess qa.toList qb.toList = B
  q01 : Op.bytesLess q0.toList q1.toList = B
theorem enc_ne {n k : Int} {s : List UInt8} {p n' k' : Int} {s' : List UInt8} {p' : Int} (h : goodK n k s p = true) (h' : goodK n' k' s' p' = true) (hk : ¬ k = k') : (encK n k s p == encK n' k' s' p') = false := by
  cases e : (encK n k s p == encK n' k' s' p') with
  | false => rfl
  | true => exact absurd (enc_same h h' (by simpa using e)).2.1 hk
theorem nf_any (n n1 p : Int) (hn1 : n + 1 = n1) (l0 l1 : List UInt8) (hl0 : l0.length ≤ maxLen) (hl1 : l1.length ≤ maxLen) (h0 : 0 ≤ n) (h1 : n < 1099511627776) (h2 : 0 ≤ p) (h3 : p ≤ 4294967295) :
    ∃ qi qp qn qa qb g0 g1 B, NF n n1 p l0 l1 qi qp qn qa qb ⟨l0.toArray⟩ ⟨l1.toArray⟩ g0 g1 B := by
  subst hn1
  have ei := good_inode n h0 (by omega)
  have ep := good_data n p h0 (by omega) h2 h3
  have en := good_inode (n + 1) (by omega) (by omega)
  have H : ∀ (m k : Int) (s : List UInt8) (x : Int) (hs : s.length ≤ maxLen) (g : Bool), goodK m k s x = g → ∀ W : World, Calls Try.prog 10 #[.agg #[.int .i64 m, .int .i64 k, .string ⟨s.toArray⟩, .int .i64 x]] W fun e w' => e = .returned (.tuple #[.string ⟨(if g then encK m k s x else []).toArray⟩, .bool g]) ∧ Upd noBlock W w' := fun m k s x hs g hg W => by
    subst hg
    exact Encode_any m k s x W hs
  refine ⟨_, _, _, _, _, goodK n 2 l0 0, goodK n 2 l1 0, Op.bytesLess l0 l1, H n 1 [] 0 (by simp) true ei, H n 3 [] p (by simp) true ep, H (n + 1) 1 [] 0 (by simp) true en, H n 2 l0 0 hl0 _ rfl, H n 2 l1 0 hl1 _ rfl, ?_, ?_, ?_, fun hg => ?_, fun hg => ?_, fun hg hg' => ?_, ?_⟩
  · rw [if_pos rfl, if_pos rfl, toL, toL, enc_less ei ep]
    simp [lessK]
  · rw [if_pos rfl, if_pos rfl, toL, toL, enc_less ep en]
    have : ¬ n = n + 1 := by omega
    simp [lessK, this]
    omega
  · rw [if_pos rfl, toL]
    have := encK_length ei
    cases h : (encK n 1 [] 0) with
    | nil => rw [h] at this; simp at this
    | cons a b => rfl
  · rw [hg, if_pos rfl, if_pos rfl, if_pos rfl, toL, toL, toL, enc_less hg ei, enc_less hg ep]
    refine ⟨by simp [lessK], enc_ne hg ei (by omega), by simp [lessK]⟩
  · rw [hg, if_pos rfl, if_pos rfl, if_pos rfl, toL, toL, toL, enc_less hg ei, enc_less hg ep]
    refine ⟨by simp [lessK], enc_ne hg ei (by omega), by simp [lessK]⟩
  · rw [hg, hg', if_pos rfl, if_pos rfl, toL, toL, enc_less hg hg']
    simp only [lessK, ne_eq, not_true_eq_false, if_false]
    by_cases e : l0 = l1
    · subst e; rw [bl_same]; simp
    · rw [if_pos e]
  · rw [toL, toL]
set_option maxRecDepth 20000 in
set_option maxHeartbeats 3200000 in
theorem keyNames_in (n p : Int) (l0 l1 : List UInt8) (q0 q1 qi qp qn qa qb : ByteArray) (g0 g1 B : Bool) (w : World) (h0 : ¬ n < 0) (h1 : n < 1099511627776) (h2 : ¬ p < 0) (h3 : p < 4294967296) (F : NF n (n + 1) p l0 l1 qi qp qn qa qb q0 q1 g0 g1 B) :
    Calls Try.prog 6 #[.int .i64 n, .agg #[.string q0, .string q1], .int .i64 p] w fun e w' => e = .returned (.bool true) ∧ Upd noBlock w w' := by
  obtain ⟨ci, cp, cn, ca, cb, ip, pn, ie, ai, bi, ab, q01⟩ := F
  have HS := Lib.hid speaks_any
  have HI := Lib.hid ci
  have HP := Lib.hid cp
  have HN := Lib.hid cn
  have HF := Lib.hid (fun W => name_facts w W #[.string q0, .string q1] 37)
  have HU : Hid (Upd noBlock w (w.alloc (.cells #[.string q0, .string q1] 37))) := (Upd.refl _ _).alloc _
  clear ci cp cn
  rcases g0 with _ | _
  · clear ai ab
    rcases g1 with _ | _
    · clear bi
      have HA := Lib.hid ca
      have HB := Lib.hid cb
      clear ca cb
      go_enter Try.func6, Try.ntmps6
      go_wp2_with (first
        | (go_at_call 8; with_reducible refine (HS.out _).mono ?_; rintro e w1 ⟨rfl, h⟩; have HW := Lib.hid h; clear h)
        | (go_at_call 10; with_reducible refine (HI.out _).mono ?_; rintro e w2 ⟨rfl, h⟩; have HW := Lib.hid (HW.out.trans h); clear h)
        | (go_at_call 10; with_reducible refine (HP.out _).mono ?_; rintro e w3 ⟨rfl, h⟩; have HW := Lib.hid (HW.out.trans h); clear h)
        | (go_at_call 10; with_reducible refine (HN.out _).mono ?_; rintro e w4 ⟨rfl, h⟩; have HW := Lib.hid (HW.out.trans h); have c1 := HF.out _ HW.out; clear h)
        | (go_at_call 10; with_reducible refine (HA.out _).mono ?_; rintro e w5 ⟨rfl, h⟩; have HW := Lib.hid (HW.out.trans h); have c2 := HF.out _ HW.out; clear h)
        | (go_at_call 10; with_reducible refine (HB.out _).mono ?_; rintro e w6 ⟨rfl, h⟩; have HW := Lib.hid (HW.out.trans h); have c3 := HF.out _ HW.out; clear h))
      go_ret
      exact ⟨rfl, HU.out.trans HW.out⟩
    · obtain ⟨b1, b2, b3⟩ := bi rfl
      have HA := Lib.hid ca
      have HB := Lib.hid cb
      clear ca cb bi
      go_enter Try.func6, Try.ntmps6
      go_wp2_with (first
        | (go_at_call 8; with_reducible refine (HS.out _).mono ?_; rintro e w1 ⟨rfl, h⟩; have HW := Lib.hid h; clear h)
        | (go_at_call 10; with_reducible refine (HI.out _).mono ?_; rintro e w2 ⟨rfl, h⟩; have HW := Lib.hid (HW.out.trans h); clear h)
        | (go_at_call 10; with_reducible refine (HP.out _).mono ?_; rintro e w3 ⟨rfl, h⟩; have HW := Lib.hid (HW.out.trans h); clear h)
        | (go_at_call 10; with_reducible refine (HN.out _).mono ?_; rintro e w4 ⟨rfl, h⟩; have HW := Lib.hid (HW.out.trans h); have c1 := HF.out _ HW.out; clear h)
        | (go_at_call 10; with_reducible refine (HA.out _).mono ?_; rintro e w5 ⟨rfl, h⟩; have HW := Lib.hid (HW.out.trans h); have c2 := HF.out _ HW.out; clear h)
        | (go_at_call 10; with_reducible refine (HB.out _).mono ?_; rintro e w6 ⟨rfl, h⟩; have HW := Lib.hid (HW.out.trans h); have c3 := HF.out _ HW.out; clear h))
      go_ret
      exact ⟨rfl, HU.out.trans HW.out⟩
  · obtain ⟨a1, a2, a3⟩ := ai rfl
    rcases g1 with _ | _
    · clear bi ai ab
      have HA := Lib.hid ca
      have HB := Lib.hid cb
      clear ca cb
      go_enter Try.func6, Try.ntmps6
      go_wp2_with (first
        | (go_at_call 8; with_reducible refine (HS.out _).mono ?_; rintro e w1 ⟨rfl, h⟩; have HW := Lib.hid h; clear h)
        | (go_at_call 10; with_reducible refine (HI.out _).mono ?_; rintro e w2 ⟨rfl, h⟩; have HW := Lib.hid (HW.out.trans h); clear h)
        | (go_at_call 10; with_reducible refine (HP.out _).mono ?_; rintro e w3 ⟨rfl, h⟩; have HW := Lib.hid (HW.out.trans h); clear h)
        | (go_at_call 10; with_reducible refine (HN.out _).mono ?_; rintro e w4 ⟨rfl, h⟩; have HW := Lib.hid (HW.out.trans h); have c1 := HF.out _ HW.out; clear h)
        | (go_at_call 10; with_reducible refine (HA.out _).mono ?_; rintro e w5 ⟨rfl, h⟩; have HW := Lib.hid (HW.out.trans h); have c2 := HF.out _ HW.out; clear h)
        | (go_at_call 10; with_reducible refine (HB.out _).mono ?_; rintro e w6 ⟨rfl, h⟩; have HW := Lib.hid (HW.out.trans h); have c3 := HF.out _ HW.out; clear h))
      go_ret
      exact ⟨rfl, HU.out.trans HW.out⟩
    · obtain ⟨b1, b2, b3⟩ := bi rfl
      have hab := ab rfl rfl
      have HA := Lib.hid ca
      have HB := Lib.hid cb
      clear ca cb bi ai ab
      go_enter Try.func6, Try.ntmps6
      go_wp2_with (first
        | (go_at_call 8; with_reducible refine (HS.out _).mono ?_; rintro e w1 ⟨rfl, h⟩; have HW := Lib.hid h; clear h)
        | (go_at_call 10; with_reducible refine (HI.out _).mono ?_; rintro e w2 ⟨rfl, h⟩; have HW := Lib.hid (HW.out.trans h); clear h)
        | (go_at_call 10; with_reducible refine (HP.out _).mono ?_; rintro e w3 ⟨rfl, h⟩; have HW := Lib.hid (HW.out.trans h); clear h)
        | (go_at_call 10; with_reducible refine (HN.out _).mono ?_; rintro e w4 ⟨rfl, h⟩; have HW := Lib.hid (HW.out.trans h); have c1 := HF.out _ HW.out; clear h)
        | (go_at_call 10; with_reducible refine (HA.out _).mono ?_; rintro e w5 ⟨rfl, h⟩; have HW := Lib.hid (HW.out.trans h); have c2 := HF.out _ HW.out; clear h)
        | (go_at_call 10; with_reducible refine (HB.out _).mono ?_; rintro e w6 ⟨rfl, h⟩; have HW := Lib.hid (HW.out.trans h); have c3 := HF.out _ HW.out; clear h))
      go_ret
      exact ⟨rfl, HU.out.trans HW.out⟩
end Go.Proofs.Ytbnnkpnhfjkdpaa
