import Derived.Test.YtoledgpcgjdjjaaGreatDoorQGXp
import Derived.Test.YtoledgpcgjdjjaaGreatDoorQGXza
import Derived.Test.YtoledgpcgjdjjaaGreatDoorQGCa
import Derived.Below
/- Append: one page more, the last one: the parities, closed. -/
namespace Go.Proofs.YtoledgpcgjdjjaaGreatDoor
open F
open Go.RowKit Pm Cm
set_option linter.unusedVariables false
attribute [local irreducible] openL decUp empUp Lib.onesCount parT sealed beZ valN labelL

theorem xorB_size (room : Nat) (L : List ByteArray) (h : room ≤ 2048) : (xorB room L).size = room := by
  show (Pr.xorL (room : Int) L).toArray.size = room
  rw [List.size_toArray, xorL_len]
  unfold Pr.xsz; omega
def lastS (A : Vp) (O : Out) (b : Nat) (ys : List Int) (X0 X1 : ByteArray) (i : Nat) : Out := finS A O.V O.M b ys (fun i => if i = 0 then X0 else X1) i
section
variable {A : Vp} {M : Ch} {V : Vo} {w : World}
set_option maxRecDepth 100000 in
set_option maxHeartbeats 6400000 in
theorem append_last (n p : Nat) (id turn : Int) (ss cc : Bool) (b : Nat) (a1 : Option Addr) (n1 q1 : Nat) (a2 : Option Addr) (n2 q2 : Nat) (pages : Nat) (gd : Bool) (s0 s1 s : ByteArray) (xs ys : List Int) (B : Nat) (O : Out) (X0 X1 : ByteArray)
    (h : VolIn w A M V) (hT : ∀ W, Upd (VOwn A M.nb) w W → Tab W) (hF : M.Fit n) (hn : n < 3000000000000000000) (hb : b < M.nb) (hs : s.size ≤ A.room) (hs0 : s0.size ≤ A.room) (hs1 : s1.size ≤ A.room)
    (hD : Pr.OwnV w B (.slice a1 n1 q1) xs) (hpg : pages + 1 < xs.length) (hxl : xs.length ≤ 64) (hp : xs.getD (pages + 1) 0 = (p : Int)) (hpn : p < M.np)
    (hP : Pr.OwnV w B (.slice a2 n2 q2) ys) (hy0 : 0 < ys.length) (hyl : ys.length ≤ 2) (hyp : ∀ i, i < ys.length → ∃ p : Nat, ys.getD i 0 = (p : Int) ∧ p < M.np)
    (hid : Wf id) (hf : V.f id = some (.agg #[.int .i64 id, .int .i64 turn, .bool ss, .bool cc, .int .i64 (b : Int), .slice a1 n1 q1, .slice a2 n2 q2, .int .i64 (pages : Int), .bool false, .bool gd, .string s0, .string s1])) (hO : wrP A V M b p s.data.toList = O) (he : O.e = 0) (hnf : pages + 2 = xs.length)
    (hX0 : (if p % 4 < 2 then xorB A.room [s0, s] else s0) = X0) (hX1 : (if p % 4 < 2 then s1 else xorB A.room [s1, s]) = X1)
    (hall : ∀ i, i < ys.length → (lastS A O b ys X0 X1 (i + 1)).e = 0) (hm : (lastS A O b ys X0 X1 ys.length).V.n < maxLen) :
    Calls Tryz.prog 24 #[.pointer (some ⟨A.v, 0, none⟩), .int .i64 id, .string s] w fun r w' => r = .returned (.int .i64 0) ∧ VGo w A M ⟨0, { (lastS A O b ys X0 X1 ys.length).V with f := putI (lastS A O b ys X0 X1 ys.length).V.f id (.agg #[.int .i64 id, .int .i64 turn, .bool ss, .bool cc, .int .i64 (b : Int), .slice a1 n1 q1, .slice a2 n2 q2, .int .i64 ((pages : Int) + 1), .bool true, .bool true, .string ⟨#[]⟩, .string ⟨#[]⟩]), n := (lastS A O b ys X0 X1 ys.length).V.n + 1 }, (lastS A O b ys X0 X1 ys.length).M⟩ w' := by
  have hn1 : n1 = xs.length := by
    obtain ⟨ga, csa, ca, hva, hba, hca⟩ := own_at0 hD (by omega)
    injection hva
  have hr7 := h.room7
  have K1 : Keeps M O.M 1 := by rw [← hO]; exact wrP_keeps A V M b p _
  have hON : O.M.nb = M.nb := K1.nb
  have hz0 : X0.size ≤ A.room := by
    rw [← hX0]; split
    · rw [xorB_size _ _ (by omega)]; exact Nat.le_refl _
    · exact hs0
  have hz1 : X1.size ≤ A.room := by
    rw [← hX1]; split
    · exact hs1
    · rw [xorB_size _ _ (by omega)]; exact Nat.le_refl _
  have HOP : Hid (Calls Tryz.prog 51 #[.pointer (some ⟨A.v, 0, none⟩), .int .i64 id] w fun e w' => e = .returned (.tuple #[.agg #[.int .i64 id, .int .i64 turn, .bool ss, .bool cc, .int .i64 (b : Int), .slice a1 n1 q1, .slice a2 n2 q2, .int .i64 (pages : Int), .bool false, .bool gd, .string s0, .string s1], .int .i64 0]) ∧ Hid (Upd noBlock w w')) := openOne_open id id turn ss cc b a1 n1 q1 a2 n2 q2 pages gd s0 s1 h hid hf
  have HEX : Hid (∀ W, Hid (Upd noBlock w W) → Calls Tryz.prog 52 #[.pointer (some ⟨A.v, 0, none⟩), .agg #[.int .i64 id, .int .i64 turn, .bool ss, .bool cc, .int .i64 (b : Int), .slice a1 n1 q1, .slice a2 n2 q2, .int .i64 (pages : Int), .bool false, .bool gd, .string s0, .string s1], .string s] W fun r w' => r = .returned (.tuple #[.agg #[.int .i64 id, .int .i64 turn, .bool ss, .bool cc, .int .i64 (b : Int), .slice a1 n1 q1, .slice a2 n2 q2, .int .i64 ((pages : Int) + 1), .bool false, .bool gd, .string X0, .string X1], .int .i64 0]) ∧ Hid (VGo w A M O w') ∧ Hid (∀ (g : Nat) (x : Array Value), W.heap[g]? = some (.cells x 94 (0, 0)) → w'.heap[g]? = some (.cells x 94 (0, 0)))) := fun W hU => by
    have UW : Upd (VOwn A M.nb) w W := hU.out.mono (fun _ _ e => e.elim)
    have HW := h.grow hU.out
    refine (extend_any n p id turn ss cc b a1 n1 q1 a2 n2 q2 pages false gd s0 s1 s xs B HW (fun W2 h2 => hT W2 (UW.trans h2)) hF (by omega) hb hs (by omega) (by omega) (hD.upd hU.out (fun _ _ h => h)) hpg hxl hp hpn).mono fun e w' ⟨hv, hx⟩ => ?_
    rw [hO] at hv hx
    rw [if_pos he, hX0, hX1] at hx
    exact ⟨hx, ⟨hv.v, UW.trans hv.u⟩, fun g x hg => HW.keepT 94 (by decide) hv.u g _ hg⟩
  have HFU : Hid (∀ W, Calls Tryz.prog 53 #[.agg #[.int .i64 id, .int .i64 turn, .bool ss, .bool cc, .int .i64 (b : Int), .slice a1 n1 q1, .slice a2 n2 q2, .int .i64 ((pages : Int) + 1), .bool false, .bool gd, .string X0, .string X1]] W fun e w' => e = .returned (.bool true) ∧ Hid (Upd noBlock W w')) := fun W => (full_any id turn ss cc b a1 n1 q1 a2 n2 q2 ((pages : Int) + 1) false gd X0 X1 W (by omega)).mono fun e w' ⟨h1, h2⟩ => ⟨by rw [h1, decide_eq_true (by omega)], h2⟩
  obtain ⟨OF, hOF⟩ : ∃ OF, lastS A O b ys X0 X1 ys.length = OF := ⟨_, rfl⟩
  have K2 : Keeps O.M OF.M ys.length := by rw [← hOF]; exact finS_keeps A O.V O.M b ys _ _
  have hFN : OF.M.nb = M.nb := K2.nb.trans hON
  have HFI : Hid (∀ W W', Hid (VGo w A M O W) → Hid (Upd noBlock W W') → Calls Tryz.prog 54 #[.pointer (some ⟨A.v, 0, none⟩), .agg #[.int .i64 id, .int .i64 turn, .bool ss, .bool cc, .int .i64 (b : Int), .slice a1 n1 q1, .slice a2 n2 q2, .int .i64 ((pages : Int) + 1), .bool false, .bool gd, .string X0, .string X1]] W' fun r w' => r = .returned (.tuple #[.agg #[.int .i64 id, .int .i64 turn, .bool ss, .bool cc, .int .i64 (b : Int), .slice a1 n1 q1, .slice a2 n2 q2, .int .i64 ((pages : Int) + 1), .bool true, .bool true, .string ⟨#[]⟩, .string ⟨#[]⟩], .int .i64 0]) ∧ Hid (VGo w A M OF w') ∧ Hid (∀ (g : Nat) (x : Array Value), W'.heap[g]? = some (.cells x 94 (0, 0)) → w'.heap[g]? = some (.cells x 94 (0, 0)))) := fun W W' hG hU => by
    have UW : Upd (VOwn A M.nb) w W' := hG.out.u.trans (hU.out.mono (fun _ _ e => e.elim))
    have HW := hG.out.v.grow hU.out
    have hP' : Pr.OwnV W' B (.slice a2 n2 q2) ys := h.ownV UW hP
    refine (finish_any (n + 1) id turn ss cc b a1 n1 q1 a2 n2 q2 ((pages : Int) + 1) false gd X0 X1 ys B HW (fun W2 h2 => hT W2 (UW.trans (VOwn.same hON h2))) (K1.fit n hF) (by omega) (by rw [hON]; exact hb) hz0 hz1 hP' hy0 hyl (fun i hi => by rw [K1.np]; exact hyp i hi)).mono fun e w' hh => ?_
    rcases hh with ⟨-, hr, hv⟩ | ⟨i, hi, -, hne, -⟩
    · have hv' : VGo W' A O.M OF w' := by rw [← hOF]; exact hv
      exact ⟨hr, ⟨hv'.v, UW.trans (VOwn.same hON hv'.u)⟩, fun g x hg => HW.keepT 94 (by decide) hv'.u g _ hg⟩
    · exact absurd (hall i hi) hne
  rw [hOF] at hm ⊢
  have HSE : Hid (∀ W', Hid (VGo w A M OF W') → Calls Tryz.prog 55 #[.pointer (some ⟨A.v, 0, none⟩), .agg #[.int .i64 id, .int .i64 turn, .bool ss, .bool cc, .int .i64 (b : Int), .slice a1 n1 q1, .slice a2 n2 q2, .int .i64 (pages : Int), .bool false, .bool gd, .string s0, .string s1], .agg #[.int .i64 id, .int .i64 turn, .bool ss, .bool cc, .int .i64 (b : Int), .slice a1 n1 q1, .slice a2 n2 q2, .int .i64 ((pages : Int) + 1), .bool true, .bool true, .string ⟨#[]⟩, .string ⟨#[]⟩], .int .i64 0] W' fun r w' => r = .returned (.int .i64 0) ∧ Hid (VGo w A M ⟨0, { OF.V with f := putI OF.V.f id (.agg #[.int .i64 id, .int .i64 turn, .bool ss, .bool cc, .int .i64 (b : Int), .slice a1 n1 q1, .slice a2 n2 q2, .int .i64 ((pages : Int) + 1), .bool true, .bool true, .string ⟨#[]⟩, .string ⟨#[]⟩]), n := OF.V.n + 1 }, OF.M⟩ w')) := fun W' hG =>
    (settle_ok id (.int .i64 turn) (.bool ss) (.bool cc) (.int .i64 (b : Int)) (.slice a1 n1 q1) (.slice a2 n2 q2) (.int .i64 ((pages : Int) + 1)) (.bool true) (.bool true) (.string ⟨#[]⟩) (.string ⟨#[]⟩) id turn ss cc b a1 n1 q1 a2 n2 q2 pages false gd s0 s1 hG.out.v hid hm).mono fun e w' ⟨h1, h2, h3⟩ => ⟨h1, h2, hG.out.u.trans (VOwn.same hFN h3)⟩
  have HC2 : Hid (∀ W, Hid (Upd noBlock w W) → W.cell? ⟨A.v, 2, none⟩ = some (.int .i64 (A.room : Int))) := fun W hU => (h.grow hU.out).cells.2.2.1
  have dl : decide ((A.room : Int) < (s.size : Int)) = false := decide_eq_false (by omega)
  have dl3 : decide (A.room < s.size) = false := decide_eq_false (by omega)
  have HSZ : Hid (∀ W, Hid (VGo w A M O W) → w.heap.size ≤ W.heap.size) := fun W hW => hW.out.u.size
  clear h hT hF hn hb hs hs0 hs1 hD hpg hxl hp hpn hid hf he hnf hm hn1 hX0 hX1 hO hON hP hy0 hyl hyp hall hOF K1 K2 hFN hz0 hz1 hr7
  go_enter Tryz.func24, Tryz.ntmps24
  go_upto_region 2 with (go_at_call 51; (with_reducible refine HOP.out.mono ?_); rintro r w1 ⟨rfl, U1⟩)
  obtain ⟨g7, hg7⟩ : ∃ g7, g7 = w1.heap.size := ⟨_, rfl⟩
  obtain ⟨w2, hw2⟩ : ∃ w2, w2 = w1.alloc (.cells #[.int .i64 id, .int .i64 turn, .bool ss, .bool cc, .int .i64 (b : Int), .slice a1 n1 q1, .slice a2 n2 q2, .int .i64 (pages : Int), .bool false, .bool gd, .string s0, .string s1] 94) := ⟨_, rfl⟩
  have B2 : Hid (w2.heap[g7]? = some (.cells #[.int .i64 id, .int .i64 turn, .bool ss, .bool cc, .int .i64 (b : Int), .slice a1 n1 q1, .slice a2 n2 q2, .int .i64 (pages : Int), .bool false, .bool gd, .string s0, .string s1] 94 (0, 0))) := by rw [hw2, hg7]; exact heap_alloc_new w1 _
  have U2 : Hid (Upd noBlock w w2) := by rw [hw2]; exact U1.out.alloc _
  rw [← hw2, ← hg7]
  clear hw2 hg7
  have c2 := HC2.out _ U2
  obtain ⟨e0, e1, e2, e3, e4, e5, e6, e7, e8, e9, ea, eb⟩ := cells12 B2.out
  go_upto_region 7 with (go_at_call 52; (with_reducible refine (HEX.out _ U2).mono ?_); rintro r w3 ⟨rfl, G3, K3⟩)
  obtain ⟨g9, hg9⟩ : ∃ g9, g9 = w3.heap.size := ⟨_, rfl⟩
  obtain ⟨w4, hw4⟩ : ∃ w4, w4 = w3.alloc (.cells #[.int .i64 id, .int .i64 turn, .bool ss, .bool cc, .int .i64 (b : Int), .slice a1 n1 q1, .slice a2 n2 q2, .int .i64 ((pages : Int) + 1), .bool false, .bool gd, .string X0, .string X1] 94) := ⟨_, rfl⟩
  have B4 : Hid (w4.heap[g9]? = some (.cells #[.int .i64 id, .int .i64 turn, .bool ss, .bool cc, .int .i64 (b : Int), .slice a1 n1 q1, .slice a2 n2 q2, .int .i64 ((pages : Int) + 1), .bool false, .bool gd, .string X0, .string X1] 94 (0, 0))) := by rw [hw4, hg9]; exact heap_alloc_new w3 _
  have U4 : Hid (Upd noBlock w3 w4) := by rw [hw4]; exact (Upd.refl _ _).alloc _
  have C3 : w3.heap[g7]? = some (.cells #[.int .i64 id, .int .i64 turn, .bool ss, .bool cc, .int .i64 (b : Int), .slice a1 n1 q1, .slice a2 n2 q2, .int .i64 (pages : Int), .bool false, .bool gd, .string s0, .string s1] 94 (0, 0)) := K3.out _ _ B2.out
  have C4 : Hid (w4.heap[g7]? = some (.cells #[.int .i64 id, .int .i64 turn, .bool ss, .bool cc, .int .i64 (b : Int), .slice a1 n1 q1, .slice a2 n2 q2, .int .i64 (pages : Int), .bool false, .bool gd, .string s0, .string s1] 94 (0, 0))) := by rw [hw4]; exact block_alloc C3 _
  have N79 : Hid (¬ g7 = g9) := by
    have h9 := lt_of_block C3
    show ¬ g7 = g9
    omega
  have L9 : Hid (w.heap.size ≤ g9) := by rw [hg9]; exact HSZ.out _ G3
  rw [← hw4, ← hg9]
  clear hw4 hg9 e0 e1 e2 e3 e4 e5 e6 e7 e8 e9 ea eb c2 C3
  obtain ⟨e0, e1, e2, e3, e4, e5, e6, e7, e8, e9, ea, eb⟩ := cells12 B4.out
  go_upto_region 8 with (go_at_call 53; (with_reducible refine (HFU.out _).mono ?_); rintro r w5 ⟨rfl, U5⟩)
  have b5 : w5.heap[g9]? = some (.cells #[.int .i64 id, .int .i64 turn, .bool ss, .bool cc, .int .i64 (b : Int), .slice a1 n1 q1, .slice a2 n2 q2, .int .i64 ((pages : Int) + 1), .bool false, .bool gd, .string X0, .string X1] 94 (0, 0)) := (U5.out.block g9 (lt_of_block B4.out) (fun h => h)).trans B4.out
  have B5 := Lib.hid b5
  have C5 : Hid (w5.heap[g7]? = some (.cells #[.int .i64 id, .int .i64 turn, .bool ss, .bool cc, .int .i64 (b : Int), .slice a1 n1 q1, .slice a2 n2 q2, .int .i64 (pages : Int), .bool false, .bool gd, .string s0, .string s1] 94 (0, 0))) := (U5.out.block g7 (lt_of_block C4.out) (fun h => h)).trans C4.out
  have U35 : Hid (Upd noBlock w3 w5) := U4.out.trans U5.out
  clear e0 e1 e2 e3 e4 e5 e6 e7 e8 e9 ea eb
  obtain ⟨e0, e1, e2, e3, e4, e5, e6, e7, e8, e9, ea, eb⟩ := cells12 b5
  have k5 : w5.cell? ⟨g9, 0, none⟩ = some (.int .i64 id) := e0
  clear b5
  go_upto_region 9 with (go_at_call 54; (with_reducible refine (HFI.out _ _ G3 U35).mono ?_); rintro r w6 ⟨rfl, G6, K6⟩; have b6 := K6.out _ _ B5.out; have B6 := Lib.hid b6; have C6 := Lib.hid (K6.out _ _ C5.out); clear e0 e1 e2 e3 e4 e5 e6 e7 e8 e9 ea eb k5; obtain ⟨y0, y1, y2, y3, y4, y5, y6, y7, y8, y9, ya, yb⟩ := cells12 b6; obtain ⟨f0, f1, f2, f3, f4, f5, f6, f7, f8, f9, fa, fb⟩ := frees12 b6; clear b6)
  obtain ⟨wy, hwy⟩ : ∃ wy, wy = set12C w6 g9 (.int .i64 id) (.int .i64 turn) (.bool ss) (.bool cc) (.int .i64 (b : Int)) (.slice a1 n1 q1) (.slice a2 n2 q2) (.int .i64 ((pages : Int) + 1)) (.bool true) (.bool true) (.string ⟨#[]⟩) (.string ⟨#[]⟩) := ⟨_, rfl⟩
  have u6 : Upd (oneBlock g9) w6 wy := by rw [hwy]; exact set12C_upd _ _ _ _ _ _ _ _ _ _ _ _ _ _
  have b7 : wy.heap[g9]? = some (.cells #[.int .i64 id, .int .i64 turn, .bool ss, .bool cc, .int .i64 (b : Int), .slice a1 n1 q1, .slice a2 n2 q2, .int .i64 ((pages : Int) + 1), .bool true, .bool true, .string ⟨#[]⟩, .string ⟨#[]⟩] 94 (0, 0)) := by rw [hwy]; exact set12C_at B6.out
  have c7 : wy.heap[g7]? = some (.cells #[.int .i64 id, .int .i64 turn, .bool ss, .bool cc, .int .i64 (b : Int), .slice a1 n1 q1, .slice a2 n2 q2, .int .i64 (pages : Int), .bool false, .bool gd, .string s0, .string s1] 94 (0, 0)) := (u6.block g7 (lt_of_block C6.out) (fun e => N79.out e)).trans C6.out
  have G7 : Hid (VGo w A M OF wy) := ⟨G6.out.v.alien B6.out (by decide) (by decide) u6, G6.out.u.past u6 L9.out⟩
  unfold set12C at hwy
  rw [← hwy]
  clear hwy u6 y0 y1 y2 y3 y4 y5 y6 y7 y8 y9 ya yb f0 f1 f2 f3 f4 f5 f6 f7 f8 f9 fa fb
  obtain ⟨e0, e1, e2, e3, e4, e5, e6, e7, e8, e9, ea, eb⟩ := cells12 b7
  obtain ⟨d0, d1, d2, d3, d4, d5, d6, d7, d8, d9, da, db⟩ := cells12 c7
  clear b7 c7
  go_wp2_with (go_at_call 55; (with_reducible refine (HSE.out _ G7).mono ?_); rintro r w8 ⟨rfl, G8⟩)
  go_ret
  exact ⟨rfl, G8.out⟩
end
end Go.Proofs.YtoledgpcgjdjjaaGreatDoor

/- leb's look that volumes speak. -/
namespace Go.Proofs.YtoledgpcgjdjjaaGreatDoor
open F
open Go.RowKit Pm Cm
set_option linter.unusedVariables false
attribute [local irreducible] openL decUp empUp Lib.onesCount parT sealed beZ valN labelL

section
variable {A : Vp} {M : Ch} {V : Vo} {w : World}
theorem rdV_good (h : VolIn w A M V) (b p : Nat) (l : List UInt8) (hp : (M.bk b).pg p = ⟨1, false, pageL A.t A.k A.c l⟩) (hl : l.length ≤ A.room) : rdV A M b p = .agg #[.int .i64 1, .string ⟨(padL A.room l).toArray⟩, .int .i64 0] := by
  unfold rdV
  have e : ((M.bk b).pg p).show M.sz = pageL A.t A.k A.c l := by rw [hp]; rfl
  rw [e, found_page h.good l hl]; rfl
theorem rdV_lost (h : VolIn w A M V) (b p : Nat) (hp : ((M.bk b).pg p).st = 2) : rdV A M b p = .agg #[.int .i64 2, .string ⟨#[]⟩, .int .i64 0] := by
  unfold rdV
  have e : ((M.bk b).pg p).show M.sz = zzL (A.c * (A.k + (13 * A.t + 7) / 8)) := by
    unfold Pg.show; rw [if_neg (by omega), if_neg (by omega), h.sz]; rfl
  rw [e, found_zz h.good]; rfl
theorem pageL_len2 (h : VolIn w A M V) (l : List UInt8) (hl : l.length ≤ A.room) : (pageL A.t A.k A.c l).length = M.sz := by
  rw [h.sz]
  exact pageL_size h.good l hl
theorem vread_good (b p n : Nat) (l : List UInt8) (h : VolIn w A M V) (hoff : V.off = false) (hT : ∀ W, Upd (VOwn A M.nb) w W → Tab W) (hF : M.Fit n) (hn : n < 4611686018427387904) (hb : b < M.nb) (hp : p < M.np) (ho : M.off = false) (hq : M.most < 1) (hpg : (M.bk b).pg p = ⟨1, false, pageL A.t A.k A.c l⟩) (hl : l.length ≤ A.room) :
    Calls Tryz.prog 45 #[.pointer (some ⟨A.v, 0, none⟩), .int .i64 (b : Int), .int .i64 (p : Int)] w fun e w' => e = .returned (.tuple #[.agg #[.int .i64 1, .string ⟨(padL A.room l).toArray⟩, .int .i64 0], .int .i64 0]) ∧ VGo w A M ⟨0, V, M.readM b⟩ w' := by
  have h9 := vread_plain b p n h hoff hT hF hn hb hp ho (.inl hq) (by rw [hpg]; show 1 ≤ 2; omega) (by rw [hpg]; exact pageL_len2 h l hl)
  rw [rdV_good h b p l hpg hl] at h9
  exact h9
theorem vread_lost (b p n : Nat) (h : VolIn w A M V) (hoff : V.off = false) (hT : ∀ W, Upd (VOwn A M.nb) w W → Tab W) (hF : M.Fit n) (hn : n < 4611686018427387904) (hb : b < M.nb) (hp : p < M.np) (ho : M.off = false) (hq : M.most < 1) (hpg : ((M.bk b).pg p).st = 2) :
    Calls Tryz.prog 45 #[.pointer (some ⟨A.v, 0, none⟩), .int .i64 (b : Int), .int .i64 (p : Int)] w fun e w' => e = .returned (.tuple #[.agg #[.int .i64 2, .string ⟨#[]⟩, .int .i64 0], .int .i64 0]) ∧ VGo w A M ⟨0, V, M.readM b⟩ w' := by
  have h9 := vread_plain b p n h hoff hT hF hn hb hp ho (.inl hq) (by rw [hpg]; exact Nat.le_refl _) (by unfold Pg.show; rw [if_neg (by omega), if_neg (by omega)]; exact List.length_replicate ..)
  rw [rdV_lost h b p hpg] at h9
  exact h9
end
section
variable {A : Vp} {M : Ch} {V : Vo} {sz n : Nat} {G : Nat → Pg}
theorem BT.readb (h : BT M sz G n) (i : Nat) : BT (M.readM i) sz G (n + 1) :=
  ⟨h.nb, h.np, h.sz, h.off, h.most, h.left, (readM_worn M i 0).trans h.worn, fun p => (readM_pg M i 0 p).trans (h.pgs p), h.fit.read i⟩
theorem BT.reads (h : BT M sz G n) : ∀ k, BT (rdN 0 k M) sz G (n + k)
  | 0 => h
  | k + 1 => (h.reads k).readb 0
theorem wrP_bt (h : BT M sz G n) (hoff : V.off = false) (p : Nat) (l : List UInt8) (hG : ∀ r, p ≤ r → G r = pg0) : wrP A V M 0 p l = ⟨0, V, M.progM 0 p (pageL A.t A.k A.c l)⟩ := by
  unfold wrP
  rw [if_neg (by rw [hoff]; decide), (h.prog p (pageL A.t A.k A.c l) hG).1]; rfl
theorem beginP_bt (h : BT M sz G n) (hoff : V.off = false) (id : Int) (s c : Bool) (hG : ∀ r, G r = pg0) : beginP A V M 0 id s c = ⟨0, { V with turn := V.turn + 1 }, M.progM 0 0 (pageL A.t A.k A.c (labelL id ((V.turn + 1 : Nat) : Int) s c))⟩ := by
  have h1 : firstP A V M 0 (labelL id ((V.turn + 1 : Nat) : Int) s c) = ⟨0, V, M.progM 0 0 (pageL A.t A.k A.c (labelL id ((V.turn + 1 : Nat) : Int) s c))⟩ := by
    unfold firstP
    rw [wrP_bt h hoff 0 _ (fun r _ => hG r), if_pos (by show (0 : Int) ≠ 21; omega)]
  unfold beginP
  rw [h1, if_neg (by simp)]
theorem finS_bt (h : BT M sz G n) (hoff : V.off = false) (sm : Nat → ByteArray) (hG : ∀ r, 5 ≤ r → G r = pg0) :
    finS A V M 0 [5] sm 1 = ⟨0, V, M.progM 0 5 (pageL A.t A.k A.c (sm 0).data.toList)⟩ := wrP_bt h hoff 5 _ hG
end
def lb9 : ByteArray := ⟨(labelL 5 1 true false).toArray⟩
def x9 : ByteArray := xorB 25 [lb9, ⟨#[97, 98]⟩]
def y9 : ByteArray := xorB 25 [x9, ⟨#[99, 100]⟩]
def r9 : ByteArray := xorB 25 [⟨(padL 25 lb9.data.toList).toArray⟩, ⟨(padL 25 [99, 100]).toArray⟩, ⟨(padL 25 y9.data.toList).toArray⟩]
theorem r9_is : r9.size = 25 ∧ r9.extract 0 2 = ⟨#[97, 98]⟩ := by decide +kernel
theorem lb9_size : lb9.size = 18 := by
  show (labelL 5 1 true false).toArray.size = 18
  rw [List.size_toArray, labelL_length]
def m9a : Ch := rdB (newCh 2 8 34) 2
def m9b : Ch := m9a.progM 0 0 (pageL 1 32 1 lb9.data.toList)
def m9c : Ch := m9b.progM 0 1 (pageL 1 32 1 [97, 98])
def m9d : Ch := m9c.progM 0 4 (pageL 1 32 1 [99, 100])
def m9e : Ch := m9d.progM 0 5 (pageL 1 32 1 y9.data.toList)
def m9f : Ch := m9e.spoilM 0 1
def g9a (q : Nat) : Pg := if q = 0 then ⟨1, false, pageL 1 32 1 lb9.data.toList⟩ else pg0
def g9b (q : Nat) : Pg := if q = 1 then ⟨1, false, pageL 1 32 1 [97, 98]⟩ else g9a q
def g9c (q : Nat) : Pg := if q = 4 then ⟨1, false, pageL 1 32 1 [99, 100]⟩ else g9b q
def g9d (q : Nat) : Pg := if q = 5 then ⟨1, false, pageL 1 32 1 y9.data.toList⟩ else g9c q
theorem bt9a : BT m9a 34 (fun _ => pg0) 2 := ((BT.new 34).readb 0).readb 1
theorem bt9b : BT m9b 34 g9a 3 := (bt9a.prog 0 _ (fun _ _ => rfl)).2
theorem g9a_far (r : Nat) (h : 1 ≤ r) : g9a r = pg0 := if_neg (by omega)
theorem g9b_far (r : Nat) (h : 4 ≤ r) : g9b r = pg0 := (if_neg (by omega)).trans (g9a_far r (by omega))
theorem g9c_far (r : Nat) (h : 5 ≤ r) : g9c r = pg0 := (if_neg (by omega)).trans (g9b_far r (by omega))
theorem bt9c : BT m9c 34 g9b 4 := (bt9b.prog 1 _ g9a_far).2
theorem bt9d : BT m9d 34 g9c 5 := (bt9c.prog 4 _ g9b_far).2
theorem bt9e : BT m9e 34 g9d 6 := (bt9d.prog 5 _ g9c_far).2
theorem bt9f : BT m9f 34 (fun q => if q = 1 then (g9d 1).spoilW else g9d q) 6 := bt9e.spoil 1
def st9 (a1 : Option Addr) (q1 : Nat) (a2 : Option Addr) (q2 : Nat) (pages : Int) (cl : Bool) (s0 : ByteArray) : Value :=
  .agg #[.int .i64 5, .int .i64 1, .bool true, .bool false, .int .i64 ((0 : Nat) : Int), .slice a1 3 q1, .slice a2 1 q2, .int .i64 pages, .bool cl, .bool cl, .string s0, .string ⟨#[]⟩]
def v9 (f : FnI) (n : Nat) : Vo := ⟨1, false, fun _ => false, f, n⟩
structure S9 (w : World) (A : Vp) (M : Ch) (V : Vo) (a1 : Option Addr) (q1 : Nat) (a2 : Option Addr) (q2 : Nat) (W : World) : Prop where
  v : VN w A M V W
  d : Pr.OwnV W w.heap.size (.slice a1 3 q1) [0, 1, 4]
  p : Pr.OwnV W w.heap.size (.slice a2 1 q2) [5]
  c : A.c = 1
  k : A.k = 32
  t : A.t = 1
theorem S9.go {w : World} {A : Vp} {M : Ch} {V : Vo} {a1 : Option Addr} {q1 : Nat} {a2 : Option Addr} {q2 : Nat} {W W' : World} {O : Out} (h : S9 w A M V a1 q1 a2 q2 W) (hv : VGo W A M O W') (hn : O.M.nb = M.nb) : S9 w A O.M O.V a1 q1 a2 q2 W' :=
  ⟨h.v.go hv hn, h.v.i.ownV hv.u h.d, h.v.i.ownV hv.u h.p, h.c, h.k, h.t⟩
theorem S9.room {w : World} {A : Vp} {M : Ch} {V : Vo} {a1 : Option Addr} {q1 : Nat} {a2 : Option Addr} {q2 : Nat} {W : World} (h : S9 w A M V a1 q1 a2 q2 W) : A.room = 25 := by
  unfold Vp.room; rw [h.c, h.k]
end Go.Proofs.YtoledgpcgjdjjaaGreatDoor

/- Read of a page that is lost. -/
namespace Go.Proofs.YtoledgpcgjdjjaaGreatDoor
open F
open Go.RowKit Pm Cm
set_option linter.unusedVariables false
attribute [local irreducible] openL decUp empUp Lib.onesCount parT sealed beZ valN labelL

section
variable {A : Vp} {M : Ch} {V : Vo} {w : World}
set_option maxRecDepth 100000 in
set_option maxHeartbeats 6400000 in
theorem read_bad (k p : Nat) (id : Int) (O : Out) (fp : ByteArray) (ft : Int) (Q : ByteArray → Int → World → Prop) (i0 t0 : Int) (ss cc : Bool) (b : Nat) (ga q1 : Nat) (a2 : Option Addr) (n2 q2 : Nat) (pages : Nat) (cl : Bool) (s0 s1 : ByteArray) (xs : List Int) (B : Nat) (h : VolIn w A M V) (hid : Wf id) (hf : V.f id = some (.agg #[.int .i64 i0, .int .i64 t0, .bool ss, .bool cc, .int .i64 (b : Int), .slice (some ⟨ga, 0, none⟩) xs.length q1, .slice a2 n2 q2, .int .i64 (pages : Int), .bool cl, .bool true, .string s0, .string s1]))
    (hk : k < pages) (hD : Pr.OwnV w B (.slice (some ⟨ga, 0, none⟩) xs.length q1) xs) (hk2 : k + 1 < xs.length) (hxl : xs.length ≤ 64) (hp : xs.getD (k + 1) 0 = (p : Int))
    (HR : ∀ W, Upd noBlock w W → Calls Tryz.prog 45 #[.pointer (some ⟨A.v, 0, none⟩), .int .i64 (b : Int), .int .i64 (p : Int)] W fun r w' => r = .returned (.tuple #[.agg #[.int .i64 2, .string fp, .int .i64 ft], .int .i64 0]) ∧ VGo W A M O w')
    (HRS : ∀ W, VGo w A M O W → Calls Tryz.prog 46 #[.pointer (some ⟨A.v, 0, none⟩), .agg #[.int .i64 i0, .int .i64 t0, .bool ss, .bool cc, .int .i64 (b : Int), .slice (some ⟨ga, 0, none⟩) xs.length q1, .slice a2 n2 q2, .int .i64 (pages : Int), .bool cl, .bool true, .string s0, .string s1], .int .i64 (p : Int)] W fun r w' => ∃ sR eR, r = .returned (.tuple #[.string sR, .int .i64 eR]) ∧ Q sR eR w') :
    Calls Tryz.prog 16 #[.pointer (some ⟨A.v, 0, none⟩), .int .i64 id, .int .i64 (k : Int)] w fun r w' => ∃ sR eR, r = .returned (.tuple #[.string sR, .int .i64 eR]) ∧ Q sR eR w' := by
  obtain ⟨gx, csa, ca, hva, hba, hca⟩ := own_at0 hD (by omega)
  injection hva with e1 e2 e3
  injection e1 with e1
  injection e1 with e1
  subst e1
  subst e3
  clear e2
  have cD : w.cell? ⟨ga, k + 1, none⟩ = some (.int .i64 (p : Int)) := by
    rw [cell_of hba, hca (k + 1) hk2]
    unfold vals
    rw [List.getElem?_map, List.getElem?_eq_getElem hk2]
    rw [List.getD_eq_getElem?_getD, List.getElem?_eq_getElem hk2] at hp
    have hp' : xs[k + 1] = (p : Int) := hp
    rw [hp']; rfl
  obtain ⟨c0, c1, c2, c3, c4, c5, c6⟩ := h.cells
  have HL := h.map.look Tryz.underlying78 (zeroSd w) id hid
  rw [hf] at HL
  have HL2 : (Instr.lookup 78 (.map (some A.mb)) (.int .i64 id) true).run Tryz.prog w = .ok (.tuple #[.agg #[.int .i64 i0, .int .i64 t0, .bool ss, .bool cc, .int .i64 (b : Int), .slice (some ⟨ga, 0, none⟩) xs.length q1, .slice a2 n2 q2, .int .i64 (pages : Int), .bool cl, .bool true, .string s0, .string s1], .bool true]) w := HL
  obtain ⟨wa, hwa⟩ : ∃ wa, wa = w.alloc (.cells #[.int .i64 i0, .int .i64 t0, .bool ss, .bool cc, .int .i64 (b : Int), .slice (some ⟨ga, 0, none⟩) xs.length q1, .slice a2 n2 q2, .int .i64 (pages : Int), .bool cl, .bool true, .string s0, .string s1] 94) := ⟨_, rfl⟩
  obtain ⟨g, hg⟩ : ∃ g, g = w.heap.size := ⟨_, rfl⟩
  have UA : Hid (Upd noBlock w wa) := by rw [hwa]; exact (Upd.refl _ _).alloc _
  have bg : wa.heap[g]? = some (.cells #[.int .i64 i0, .int .i64 t0, .bool ss, .bool cc, .int .i64 (b : Int), .slice (some ⟨ga, 0, none⟩) xs.length q1, .slice a2 n2 q2, .int .i64 (pages : Int), .bool cl, .bool true, .string s0, .string s1] 94 (0, 0)) := by rw [hwa, hg]; exact heap_alloc_new w _
  have x7 : wa.cell? ⟨g, 7, none⟩ = some (.int .i64 (pages : Int)) := cell_of bg 7
  have HKB : Hid (∀ W, Hid (Upd noBlock wa W) → W.cell? ⟨g, 4, none⟩ = some (.int .i64 (b : Int)) ∧ W.cell? ⟨g, 5, none⟩ = some (.slice (some ⟨ga, 0, none⟩) xs.length q1) ∧ W.cell? ⟨ga, k + 1, none⟩ = some (.int .i64 (p : Int))) := fun W hU => by
    have h9 := (hU.out.block g (lt_of_block bg) (fun h => h)).trans bg
    have h8 := ((UA.out.trans hU.out).block ga (lt_of_block hba) (fun h => h)).trans hba
    exact ⟨cell_of h9 4, cell_of h9 5, (World.cell?_of_block ((UA.out.trans hU.out).block ga (lt_of_block hba) (fun h => h))).trans cD⟩
  have HRW : Hid (∀ W, Hid (Upd noBlock wa W) → Calls Tryz.prog 45 #[.pointer (some ⟨A.v, 0, none⟩), .int .i64 (b : Int), .int .i64 (p : Int)] W fun r w' => r = .returned (.tuple #[.agg #[.int .i64 2, .string fp, .int .i64 ft], .int .i64 0]) ∧ Hid (VGo w A M O w') ∧ Hid (w'.cell? ⟨g, 4, none⟩ = some (.int .i64 (b : Int)) ∧ w'.cell? ⟨g, 5, none⟩ = some (.slice (some ⟨ga, 0, none⟩) xs.length q1) ∧ w'.cell? ⟨ga, k + 1, none⟩ = some (.int .i64 (p : Int))) ∧ Hid (∀ (g : Nat) (x : Array Value), W.heap[g]? = some (.cells x 101 (0, 0)) → w'.heap[g]? = some (.cells x 101 (0, 0))) ∧ Hid (w'.heap[g]? = some (.cells #[.int .i64 i0, .int .i64 t0, .bool ss, .bool cc, .int .i64 (b : Int), .slice (some ⟨ga, 0, none⟩) xs.length q1, .slice a2 n2 q2, .int .i64 (pages : Int), .bool cl, .bool true, .string s0, .string s1] 94 (0, 0))) ∧ Hid (w'.heap[ga]? = some (.cells csa 3 (0, 0)))) := fun W hU => by
    have HW := h.grow (UA.out.trans hU.out)
    refine (HR W (UA.out.trans hU.out)).mono fun e w' ⟨h1, h2⟩ => ⟨h1, ⟨h2.v, ((UA.out.trans hU.out).mono (fun _ _ e => e.elim)).trans h2.u⟩, ?_, fun g x hg => HW.keepT 101 (by decide) h2.u g _ hg, HW.keepT 94 (by decide) h2.u g _ ((hU.out.block g (lt_of_block bg) (fun h => h)).trans bg), HW.keepT 3 (by decide) h2.u ga _ (((UA.out.trans hU.out).block ga (lt_of_block hba) (fun h => h)).trans hba)⟩
    have h9 := HW.keepT 94 (by decide) h2.u g _ ((hU.out.block g (lt_of_block bg) (fun h => h)).trans bg)
    have h8 := HW.keepT 3 (by decide) h2.u ga _ (((UA.out.trans hU.out).block ga (lt_of_block hba) (fun h => h)).trans hba)
    exact ⟨cell_of h9 4, cell_of h9 5, by rw [cell_of h8, ← cell_of hba]; exact cD⟩
  have hwk : IntKind.i64.wrap ((k : Int) + 1) = (k : Int) + 1 := by rw [IntKind.wrap_i64]; omega
  have i1 : (0 : Int) ≤ (k : Int) + 1 := by omega
  have i2 : (k : Int) + 1 < (xs.length : Int) := by omega
  have k0 : decide ((k : Int) < 0) = false := decide_eq_false (by omega)
  have k1 : decide (pages ≤ k) = false := decide_eq_false (by omega)
  have HAS : Hid (w.heap.size ≤ wa.heap.size) := UA.out.size
  have UD : Hid (Upd noBlock wa wa.drew) := (Upd.refl _ _).drew
  have UDA : Hid (Upd noBlock wa (wa.alloc (.cells #[.int .i64 0, .string ⟨#[]⟩, .int .i64 0] 101)).drew) := ((Upd.refl noBlock wa).alloc _).drew
  have hz : (wa.alloc (.cells #[.int .i64 0, .string ⟨#[]⟩, .int .i64 0] 101)).drew.heap[wa.heap.size]? = some (.cells #[.int .i64 0, .string ⟨#[]⟩, .int .i64 0] 101 (0, 0)) := heap_alloc_new wa _
  have HZ := Lib.hid hz
  have HNE : Hid (¬ g = wa.heap.size) := by
    have h9 := lt_of_block bg
    show ¬ g = wa.heap.size
    omega
  have HNA : Hid (¬ ga = wa.heap.size) := by
    have h9 := lt_of_block hba
    have h8 := UA.out.size
    show ¬ ga = wa.heap.size
    omega
  have b0 := HKB.out _ UD
  obtain ⟨b0, b1, b2⟩ := b0
  have b3 := HKB.out _ UDA
  obtain ⟨b3, b4, b5⟩ := b3
  have HCX : Hid (csa[k + 1]? = some (.int .i64 (p : Int))) := by
    show csa[k + 1]? = _
    rw [← cell_of hba]; exact cD
  have HRST := Lib.hid HRS
  clear h hid hf hD hp HR HRS HL bg hba hca cD hz hxl
  go_enter Tryz.func16, Tryz.ntmps16
  go_upto_region 4 with fail
  rw [← hwa, ← hg]
  clear hwa hg HL2 c0 c1 c2 c3 c4 c5 c6
  go_upto_region 8 with fail
  go_cut [10, 11] from 34 to 46 (fun s10 s11 wz => ∃ g10 : Nat, s10 = .pointer (some ⟨g10, 0, none⟩) ∧ s11 = .int .i64 0 ∧ Hid (wz.heap[g10]? = some (.cells #[.int .i64 2, .string fp, .int .i64 ft] 101 (0, 0))) ∧ Hid (VGo w A M O wz) ∧ Hid (wz.heap[g]? = some (.cells #[.int .i64 i0, .int .i64 t0, .bool ss, .bool cc, .int .i64 (b : Int), .slice (some ⟨ga, 0, none⟩) xs.length q1, .slice a2 n2 q2, .int .i64 (pages : Int), .bool cl, .bool true, .string s0, .string s1] 94 (0, 0))) ∧ Hid (wz.heap[ga]? = some (.cells csa 3 (0, 0))))
  case first =>
    go_region_with (first
      | (go_at_call 45; (with_reducible refine (HRW.out _ UDA).mono ?_); rintro r w5 ⟨rfl, G5, K5, L5, P5, Q5⟩; have z5 := L5.out _ _ HZ.out; obtain ⟨m0, m1, m2⟩ := K5.out; have y0 := cell_of z5 0; have y1 := cell_of z5 1; have y2 := cell_of z5 2; have f0 := free_of z5 0; have f1 := free_of z5 1; have f2 := free_of z5 2)
      | (go_at_call 45; (with_reducible refine (HRW.out _ UD).mono ?_); rintro r w5 ⟨rfl, G5, K5, L5, P5, Q5⟩; obtain ⟨m0, m1, m2⟩ := K5.out))
    all_goals
      go_wp2
      go_meet
      first
        | exact ⟨_, rfl, rfl, heap_alloc_new w5 _, ⟨G5.out.v.grow ((Upd.refl _ _).alloc _), G5.out.u.trans (((Upd.refl noBlock w5).alloc _).mono (fun _ _ e => e.elim))⟩, block_alloc P5.out _, block_alloc Q5.out _⟩
        | exact ⟨_, rfl, rfl, block_set (block_set (block_set z5 _) _) _, ⟨G5.out.v.alien z5 (by decide) (by decide) ((((Upd.refl (oneBlock wa.heap.size) w5).setCell (p := ⟨wa.heap.size, 0, none⟩) (.inl rfl) _).setCell (p := ⟨wa.heap.size, 1, none⟩) (.inl rfl) _).setCell (p := ⟨wa.heap.size, 2, none⟩) (.inl rfl) _), G5.out.u.past ((((Upd.refl (oneBlock wa.heap.size) w5).setCell (p := ⟨wa.heap.size, 0, none⟩) (.inl rfl) _).setCell (p := ⟨wa.heap.size, 1, none⟩) (.inl rfl) _).setCell (p := ⟨wa.heap.size, 2, none⟩) (.inl rfl) _) HAS.out⟩, block_set_other (block_set_other (block_set_other P5.out HNE.out _) HNE.out _) HNE.out _, block_set_other (block_set_other (block_set_other Q5.out HNA.out _) HNA.out _) HNA.out _⟩
  case rest =>
    obtain ⟨g10, rfl, rfl, B10, G10, P10, Q10⟩ := hcut
    clear HRW HKB
    have y0 := cell_of B10.out 0
    have y0' : wc.cell? ⟨g10, 0, none⟩ = some (.int .i64 2) := y0
    have p9 : wc.cell? ⟨g, 9, none⟩ = some (.bool true) := cell_of P10.out 9
    have HKD : Hid (∀ W, Hid (Upd noBlock wc W) → W.cell? ⟨g, 0, none⟩ = some (.int .i64 i0) ∧ W.cell? ⟨g, 1, none⟩ = some (.int .i64 t0) ∧ W.cell? ⟨g, 2, none⟩ = some (.bool ss) ∧ W.cell? ⟨g, 3, none⟩ = some (.bool cc) ∧ W.cell? ⟨g, 4, none⟩ = some (.int .i64 (b : Int)) ∧ W.cell? ⟨g, 5, none⟩ = some (.slice (some ⟨ga, 0, none⟩) xs.length q1) ∧ W.cell? ⟨g, 6, none⟩ = some (.slice a2 n2 q2) ∧ W.cell? ⟨g, 7, none⟩ = some (.int .i64 (pages : Int)) ∧ W.cell? ⟨g, 8, none⟩ = some (.bool cl) ∧ W.cell? ⟨g, 9, none⟩ = some (.bool true) ∧ W.cell? ⟨g, 10, none⟩ = some (.string s0) ∧ W.cell? ⟨g, 11, none⟩ = some (.string s1) ∧ W.cell? ⟨ga, k + 1, none⟩ = some (.int .i64 (p : Int))) := fun W hU => by
      have h9 := (hU.out.block g (lt_of_block P10.out) (fun h => h)).trans P10.out
      have h8 := (hU.out.block ga (lt_of_block Q10.out) (fun h => h)).trans Q10.out
      obtain ⟨e0, e1, e2, e3, e4, e5, e6, e7, e8, e9, ea, eb⟩ := cells12 h9
      exact ⟨e0, e1, e2, e3, e4, e5, e6, e7, e8, e9, ea, eb, (cell_of h8 (k + 1)).trans HCX.out⟩
    have UD2 : Hid (Upd noBlock wc wc.drew) := (Upd.refl _ _).drew
    have HRT : Hid (Calls Tryz.prog 46 #[.pointer (some ⟨A.v, 0, none⟩), .agg #[.int .i64 i0, .int .i64 t0, .bool ss, .bool cc, .int .i64 (b : Int), .slice (some ⟨ga, 0, none⟩) xs.length q1, .slice a2 n2 q2, .int .i64 (pages : Int), .bool cl, .bool true, .string s0, .string s1], .int .i64 (p : Int)] wc.drew fun r w' => ∃ sR eR, r = .returned (.tuple #[.string sR, .int .i64 eR]) ∧ Hid (Q sR eR w')) := HRST.out _ ⟨G10.out.v.grow UD2.out, G10.out.u.trans (UD2.out.mono (fun _ _ e => e.elim))⟩
    obtain ⟨d0, d1, d2, d3, d4, d5, d6, d7, d8, d9, da, db, dk⟩ := HKD.out _ UD2
    go_upto_region 14 with fail
    go_region_with (go_at_call 46; (with_reducible refine HRT.out.mono ?_); rintro r w6 ⟨sR, eR, rfl, G6⟩)
    all_goals
      go_wp2_with fail
      go_ret2
      exact ⟨sR, eR, rfl, G6.out⟩
end
end Go.Proofs.YtoledgpcgjdjjaaGreatDoor

/- leb's look that volumes speak, walked. -/
namespace Go.Proofs.YtoledgpcgjdjjaaGreatDoor
open F
open Go.RowKit Pm Cm
set_option linter.unusedVariables false
attribute [local irreducible] openL decUp empUp Lib.onesCount parT sealed beZ valN labelL pageL xorB padL

section
variable {w : World} {A : Vp} {W : World} {a1 : Option Addr} {q1 : Nat} {a2 : Option Addr} {q2 : Nat}
theorem map9 (hT : Tab w) (h : VN w A m9a vo0 W) (hc : A.c = 1) (hk : A.k = 32) (ht : A.t = 1) :
    Calls Tryz.prog 23 #[.pointer (some ⟨A.v, 0, none⟩), .int .i64 5, .bool true] W fun r w' => r = .returned (.int .i64 0) ∧ ∃ a1 q1 a2 q2, S9 w A m9b (v9 (putI (fun _ => none) 5 (st9 a1 q1 a2 q2 0 false lb9)) 1) a1 q1 a2 q2 w' := by
  have hroom : A.room = 25 := by unfold Vp.room; rw [hc, hk]
  have hbt := bt9a
  have hbe := beginP_bt (A := A) (V := vo0) hbt rfl 5 true false (fun _ => rfl)
  have hnb : m9a.nb = 2 := hbt.nb
  have hnp : m9a.np = 8 := hbt.np
  have h9 := map_new 0 2 5 true h.i (fun _ _ => rfl) (h.tab hT) hbt.fit (by omega) (by rw [hnb]; omega) (by rw [hroom]; omega) (by decide) (by decide +kernel) (by rw [hbe]) (by rw [hnp]; decide) (by rw [hnp]; decide) (by decide) (by rw [hbe]; show 0 < maxLen; decide)
  rw [hbe, hnp] at h9
  refine h9.mono fun r w' ⟨hr, D, P, hv, hD, hP⟩ => ⟨hr, ?_⟩
  obtain ⟨a1, q1, hD1, -, -, -⟩ := hD.sl
  obtain ⟨a2, q2, hP1, -, -, -⟩ := hP.sl
  rw [show (Pr.dl true (8 - 3)).length = 3 by decide] at hD1
  rw [show (Pr.parL true 8).length = 1 by decide] at hP1
  subst hD1 hP1
  have hsz := h.u.size
  have hgo := h.go hv hbt.nb
  have hM : m9a.progM 0 0 (pageL A.t A.k A.c (labelL 5 ((vo0.turn + 1 : Nat) : Int) true false)) = m9b := by rw [hc, hk, ht]; rfl
  have hst : Value.agg (sdC (begunD 5 (vo0.turn + 1) true false 0 (.slice a1 3 q1) (.slice a2 1 q2))) = st9 a1 q1 a2 q2 0 false lb9 := by
    unfold sdC begunD st9 lb9; rfl
  dsimp only at hgo
  rw [hM, hst] at hgo
  exact ⟨a1, q1, a2, q2, hgo, Pr.OwnV.down hD hsz, Pr.OwnV.down hP hsz, hc, hk, ht⟩
theorem app9a (hT : Tab w) (h : S9 w A m9b (v9 (putI (fun _ => none) 5 (st9 a1 q1 a2 q2 0 false lb9)) 1) a1 q1 a2 q2 W) :
    Calls Tryz.prog 24 #[.pointer (some ⟨A.v, 0, none⟩), .int .i64 5, .string ⟨#[97, 98]⟩] W fun r w' => r = .returned (.int .i64 0) ∧ ∃ f, f 5 = some (st9 a1 q1 a2 q2 1 false x9) ∧ S9 w A m9c (v9 f 2) a1 q1 a2 q2 w' := by
  have hroom := h.room
  have hbt := bt9b
  have hwr := wrP_bt (A := A) (V := v9 (putI (fun _ => none) 5 (st9 a1 q1 a2 q2 0 false lb9)) 1) hbt rfl 1 [97, 98] g9a_far
  have hM : m9b.progM 0 1 (pageL A.t A.k A.c [97, 98]) = m9c := by rw [h.c, h.k, h.t]; rfl
  rw [hM] at hwr
  have hwr2 : wrP A (v9 (putI (fun _ => none) 5 (st9 a1 q1 a2 q2 0 false lb9)) 1) m9b 0 1 (⟨#[97, 98]⟩ : ByteArray).data.toList = _ := hwr
  have hsz := lb9_size
  have h9 := append_more 3 1 5 1 true false 0 a1 3 q1 a2 1 q2 0 false lb9 ⟨#[]⟩ ⟨#[97, 98]⟩ [0, 1, 4] w.heap.size h.v.i (h.v.tab hT) hbt.fit (by omega) (by rw [hbt.nb]; omega) (by rw [hroom]; decide) (by omega) (by decide) h.d (by decide) (by decide) rfl (by rw [hbt.np]; omega) (wf_nat (p := 5) (by omega)) rfl (by rw [hwr2]) (by decide) (by rw [hwr2]; show 1 < maxLen; decide)
  rw [hwr2, hroom] at h9
  refine h9.mono fun r w' ⟨hr, hv⟩ => ⟨hr, _, ?_, h.go hv (bt9c.nb.trans hbt.nb.symm)⟩
  rfl
theorem app9b (hT : Tab w) (f : FnI) (hf : f 5 = some (st9 a1 q1 a2 q2 1 false x9)) (h : S9 w A m9c (v9 f 2) a1 q1 a2 q2 W) :
    Calls Tryz.prog 24 #[.pointer (some ⟨A.v, 0, none⟩), .int .i64 5, .string ⟨#[99, 100]⟩] W fun r w' => r = .returned (.int .i64 0) ∧ ∃ f, f 5 = some (st9 a1 q1 a2 q2 2 true ⟨#[]⟩) ∧ S9 w A m9e (v9 f 3) a1 q1 a2 q2 w' := by
  have hroom := h.room
  have hbt := bt9c
  have hwr := wrP_bt (A := A) (V := v9 f 2) hbt rfl 4 [99, 100] g9b_far
  have hM : m9c.progM 0 4 (pageL A.t A.k A.c [99, 100]) = m9d := by rw [h.c, h.k, h.t]; rfl
  rw [hM] at hwr
  have hwr2 : wrP A (v9 f 2) m9c 0 4 (⟨#[99, 100]⟩ : ByteArray).data.toList = ⟨0, v9 f 2, m9d⟩ := hwr
  have hX0 : (if 4 % 4 < 2 then xorB A.room [x9, ⟨#[99, 100]⟩] else x9) = y9 := by rw [hroom]; rfl
  have hx9 : x9.size = 25 := xorB_size 25 _ (by omega)
  have hf1 := finS_bt (A := A) (V := v9 f 2) bt9d rfl (fun i => if i = 0 then y9 else ⟨#[]⟩) g9c_far
  have hl2 : lastS A ⟨0, v9 f 2, m9d⟩ 0 [5] y9 ⟨#[]⟩ 1 = ⟨0, v9 f 2, m9e⟩ := by
    have e : lastS A ⟨0, v9 f 2, m9d⟩ 0 [5] y9 ⟨#[]⟩ 1 = _ := hf1
    rw [e, h.c, h.k, h.t]; rfl
  have hl2' : lastS A ⟨0, v9 f 2, m9d⟩ 0 [5] y9 ⟨#[]⟩ ([5] : List Int).length = ⟨0, v9 f 2, m9e⟩ := hl2
  have h9 := append_last 4 4 5 1 true false 0 a1 3 q1 a2 1 q2 1 false x9 ⟨#[]⟩ ⟨#[99, 100]⟩ [0, 1, 4] [5] w.heap.size ⟨0, v9 f 2, m9d⟩ y9 ⟨#[]⟩ h.v.i (h.v.tab hT) hbt.fit (by omega) (by rw [hbt.nb]; omega) (by rw [hroom]; decide) (by rw [hroom, hx9]; omega) (by rw [hroom]; decide) h.d (by decide) (by decide) rfl (by rw [hbt.np]; omega) h.p (by decide) (by decide) (fun i hi => by
      rw [hbt.np]
      match i, hi with
      | 0, _ => exact ⟨5, rfl, by omega⟩) (wf_nat (p := 5) (by omega)) hf hwr2 rfl (by decide) hX0 rfl (fun i hi => by
      match i, hi with
      | 0, _ => exact congrArg Out.e hl2) (by rw [hl2']; show 2 < maxLen; decide)
  rw [hl2'] at h9
  refine h9.mono fun r w' ⟨hr, hv⟩ => ⟨hr, _, ?_, h.go hv (bt9e.nb.trans hbt.nb.symm)⟩
  rfl
theorem spoil9 (f : FnI) (h : S9 w A m9e (v9 f 3) a1 q1 a2 q2 W) :
    Calls Tryz.prog 15 #[.pointer (some ⟨A.ch, 0, none⟩), .int .i64 0, .int .i64 1] W fun r w' => r = .returned (.int .i64 0) ∧ S9 w A m9f (v9 f 3) a1 q1 a2 q2 w' := by
  have h9 := spoilC_in A.ch A.bb A.pb m9e 0 1 W h.v.i.pgr.chip (by rw [bt9e.nb]; omega) (by rw [bt9e.np]; omega)
  refine h9.mono fun r w' ⟨hr, hc, hu⟩ => ⟨hr, ?_⟩
  have hv : VGo W A m9e ⟨0, v9 f 3, m9f⟩ w' := ⟨h.v.i.paged (h.v.i.pgr.chipped hu hc) (POwn.chip hu) rfl rfl rfl, VOwn.pgr (POwn.chip hu)⟩
  exact h.go hv rfl
def fl9 (p : Nat) : ByteArray := if p = 0 then ⟨(padL 25 lb9.data.toList).toArray⟩ else if p = 4 then ⟨(padL 25 [99, 100]).toArray⟩ else ⟨(padL 25 y9.data.toList).toArray⟩
theorem fl9_size (p : Nat) : (fl9 p).size ≤ 5000 := by
  have hlb := lb9_size
  have hy9 : y9.size = 25 := xorB_size 25 _ (by omega)
  have h1 : ∀ l : List UInt8, l.length ≤ 25 → (⟨(padL 25 l).toArray⟩ : ByteArray).size ≤ 5000 := fun l hl => by
    show (padL 25 l).toArray.size ≤ 5000
    rw [List.size_toArray, padL_length hl]; omega
  unfold fl9
  split
  · exact h1 _ (by show lb9.size ≤ 25; omega)
  · split
    · exact h1 _ (by decide)
    · exact h1 _ (by show y9.size ≤ 25; omega)
theorem read9 (hT : Tab w) (f : FnI) (hf : f 5 = some (st9 a1 q1 a2 q2 2 true ⟨#[]⟩)) (h : S9 w A m9f (v9 f 3) a1 q1 a2 q2 W) :
    Calls Tryz.prog 16 #[.pointer (some ⟨A.v, 0, none⟩), .int .i64 5, .int .i64 0] W fun r w' => r = .returned (.tuple #[.string r9, .int .i64 0]) ∧ Upd noBlock w w' := by
  have hroom := h.room
  have hbt := bt9f
  have hnb := hbt.nb
  have hnp := hbt.np
  obtain ⟨g1, cs1, c1, hv1, hb1, -⟩ := own_at0 h.d (by decide)
  injection hv1 with e1 e2 e3
  subst e1
  clear e2 e3
  obtain ⟨g2, cs2, c2, hv2, hb2, -⟩ := own_at0 h.p (by decide)
  injection hv2 with e1 e2 e3
  subst e1
  clear e2 e3
  have hkeep : ∀ {k : Nat} {W' : World}, VGo W A m9f ⟨0, v9 f 3, rdN 0 k m9f⟩ W' → S9 w A (rdN 0 k m9f) (v9 f 3) (some ⟨g1, 0, none⟩) q1 (some ⟨g2, 0, none⟩) q2 W' := fun {k W'} hv => h.go hv ((hbt.reads k).nb.trans hnb.symm)
  have hlost : ∀ W', Upd noBlock W W' → Calls Tryz.prog 45 #[.pointer (some ⟨A.v, 0, none⟩), .int .i64 ((0 : Nat) : Int), .int .i64 ((1 : Nat) : Int)] W' fun r w' => r = .returned (.tuple #[.agg #[.int .i64 2, .string ⟨#[]⟩, .int .i64 0], .int .i64 0]) ∧ VGo W' A m9f ⟨0, v9 f 3, m9f.readM 0⟩ w' := fun W' hU =>
    vread_lost 0 1 6 (h.v.i.grow hU) rfl (fun W2 h2 => h.v.tab hT W2 ((hU.mono (fun _ _ e => e.elim)).trans h2)) hbt.fit (by omega) (by rw [hnb]; omega) (by rw [hnp]; omega) hbt.off hbt.most (by rw [hbt.pgs]; rfl)
  have hres : ∀ W', VGo W A m9f ⟨0, v9 f 3, m9f.readM 0⟩ W' → Calls Tryz.prog 46 #[.pointer (some ⟨A.v, 0, none⟩), .agg #[.int .i64 5, .int .i64 1, .bool true, .bool false, .int .i64 ((0 : Nat) : Int), .slice (some ⟨g1, 0, none⟩) 3 q1, .slice (some ⟨g2, 0, none⟩) 1 q2, .int .i64 ((2 : Nat) : Int), .bool true, .bool true, .string ⟨#[]⟩, .string ⟨#[]⟩], .int .i64 ((1 : Nat) : Int)] W' fun r w' => ∃ sR eR, r = .returned (.tuple #[.string sR, .int .i64 eR]) ∧ (sR = r9 ∧ eR = 0 ∧ Upd noBlock w w') := fun W' hW => by
    have h2 : S9 w A (rdN 0 1 m9f) (v9 f 3) (some ⟨g1, 0, none⟩) q1 (some ⟨g2, 0, none⟩) q2 W' := hkeep (k := 1) hW
    have hb2 := hbt.reads 1
    refine (restore_any (M := rdN 0 1 m9f) 0 1 5 1 true false 0 g1 q1 g2 q2 2 true true ⟨#[]⟩ ⟨#[]⟩ [0, 1, 4] [5] w.heap.size 5 [0, 1, 4, 5] fl9 (fun _ => 1) (fun _ => 0) h2.v.i h2.d h2.p (by decide) (by decide) (by decide) (fun i hi => by
        match i, hi with
        | 0, _ => exact ⟨0, rfl, by omega⟩
        | 1, _ => exact ⟨1, rfl, by omega⟩
        | 2, _ => exact ⟨4, rfl, by omega⟩) (by decide) rfl (by decide) rfl rfl (fun i hi => by
        match i, hi with
        | 0, _ => exact ⟨0, rfl⟩
        | 1, _ => exact ⟨1, rfl⟩
        | 2, _ => exact ⟨4, rfl⟩
        | 3, _ => exact ⟨5, rfl⟩) (fun p => ?_) (fun r W2 p hr hv hp hne => ?_)).mono fun e w' hh => ?_
    · exact fl9_size p
    · have hb3 := hb2.reads r
      have hvi := hv.v
      have hTT : ∀ W3, Upd (VOwn A (rdN 0 r (rdN 0 1 m9f)).nb) W2 W3 → Tab W3 := (h2.go hv (hb3.nb.trans hb2.nb.symm)).v.tab hT
      have hr4 : r < 4 := hr
      have hlb := lb9_size
      have hy9 : y9.size = 25 := xorB_size 25 _ (by omega)
      have hrd : ∀ (p : Nat) (l : List UInt8), (if p = 1 then (g9d 1).spoilW else g9d p) = ⟨1, false, pageL 1 32 1 l⟩ → p < 8 → l.length ≤ 25 → (⟨(padL 25 l).toArray⟩ : ByteArray) = fl9 p → Calls Tryz.prog 45 #[.pointer (some ⟨A.v, 0, none⟩), .int .i64 ((0 : Nat) : Int), .int .i64 (p : Int)] W2 fun e w' => e = .returned (.tuple #[.agg #[.int .i64 1, .string (fl9 p), .int .i64 0], .int .i64 0]) ∧ VGo W' A (rdN 0 1 m9f) ⟨0, v9 f 3, rdN 0 (r + 1) (rdN 0 1 m9f)⟩ w' ∧ RdK W2 w' := fun p l hg hp8 hl hfl => by
        have h9 := vread_good 0 p (6 + 1 + r) l hvi rfl hTT hb3.fit (by omega) (by rw [hb3.nb]; omega) (by rw [hb3.np]; omega) hb3.off hb3.most (by rw [hb3.pgs, hg, h.c, h.k, h.t]) (by rw [hroom]; exact hl)
        rw [hroom, hfl] at h9
        exact h9.mono fun e w' ⟨he, hw⟩ => ⟨he, ⟨hw.v, hv.u.trans (VOwn.same (hb3.nb.trans hb2.nb.symm) hw.u)⟩, RdK.of hvi hw⟩
      have hp4 : p = 0 ∨ p = 4 ∨ p = 5 := by
        simp only [List.mem_cons, List.not_mem_nil, or_false] at hp
        omega
      rcases hp4 with rfl | rfl | rfl
      · exact hrd 0 lb9.data.toList rfl (by omega) (by show lb9.size ≤ 25; omega) rfl
      · exact hrd 4 [99, 100] rfl (by omega) (by decide) rfl
      · exact hrd 5 y9.data.toList rfl (by omega) (by show y9.size ≤ 25; omega) rfl
    · rcases hh with ⟨-, he, hv⟩ | ⟨⟨p, -, hne⟩, -⟩
      · have e9 : othS fl9 (oth 1 [0, 1, 4, 5]) = [fl9 0, fl9 4, fl9 5] := rfl
        rw [e9, hroom] at he
        exact ⟨_, _, he, rfl, rfl, upd_all h2.v.u hv.u h2.v.o⟩
      · exact absurd rfl hne
  have h9 := read_bad (M := m9f) 0 1 5 ⟨0, v9 f 3, m9f.readM 0⟩ ⟨#[]⟩ 0 (fun sR eR w' => sR = r9 ∧ eR = 0 ∧ Upd noBlock w w') 5 1 true false 0 g1 q1 (some ⟨g2, 0, none⟩) 1 q2 2 true ⟨#[]⟩ ⟨#[]⟩ [0, 1, 4] w.heap.size h.v.i (wf_nat (p := 5) (by omega)) hf (by omega) h.d (by decide) (by decide) rfl hlost hres
  refine h9.mono fun r w' ⟨sR, eR, hr, e1, e2, hu⟩ => ?_
  subst e1 e2
  exact ⟨hr, hu⟩
end
end Go.Proofs.YtoledgpcgjdjjaaGreatDoor

/- leb's look that volumes speak; LebNil. -/
namespace Go.Proofs.YtoledgpcgjdjjaaGreatDoor
open F
open Go.RowKit Pm Cm
set_option linter.unusedVariables false
attribute [local irreducible] openL decUp empUp Lib.onesCount parT sealed beZ valN labelL pageL xorB padL

theorem geo9 : GoodG 2 8 1 32 1 := ⟨by decide, by decide, by decide, by decide, by decide, by decide, by decide, by decide, by decide, by decide, by decide⟩
set_option maxRecDepth 100000 in
set_option maxHeartbeats 3200000 in
theorem speaks9_any (w : World) (hT : Tab w) : Calls Tryz.prog 7 #[] w fun e w' => e = .returned (.bool true) ∧ Upd noBlock w w' := by
  have hrw : rawN 1 32 1 = 34 := by decide
  have HCH : Hid (∀ W, Calls Tryz.prog 9 #[geoV 2 8 1 32 1] W fun e w' => NewC 2 8 34 W w' e) := fun W => by
    have h9 := chip_good 2 8 1 32 1 W geo9
    rw [hrw] at h9
    exact h9
  have HAT : Hid (∀ ch bb pb W, ChipIn W ch bb pb (newCh 2 8 34) → Upd noBlock w W → (∀ i, Own ch bb pb 2 i → w.heap.size ≤ i) → Calls Tryz.prog 10 #[.pointer (some ⟨ch, 0, none⟩), geoV 2 8 1 32 1] W fun e w' => ∃ A : Vp, e = .returned (.tuple #[.pointer (some ⟨A.v, 0, none⟩), .int .i64 0]) ∧ VN w A m9a vo0 w' ∧ A.ch = ch ∧ A.bb = bb ∧ A.pb = pb ∧ A.c = 1 ∧ A.k = 32 ∧ A.t = 1) := fun ch bb pb W hC hU hO => by
    have hB := Blank.new 2 8 34
    rw [← hrw] at hB
    have h9 := attach_blank 2 8 1 32 1 ch bb pb (newCh 2 8 34) 0 w W geo9 hT hC hU hO (by rw [← hrw] at *; exact hB) (by omega) (by decide)
    exact h9
  have HMP := Lib.hid (fun A W h hc hk ht => map9 (w := w) (A := A) (W := W) hT h hc hk ht)
  have HA1 := Lib.hid (fun A W a1 q1 a2 q2 h => app9a (w := w) (A := A) (W := W) (a1 := a1) (q1 := q1) (a2 := a2) (q2 := q2) hT h)
  have HA2 := Lib.hid (fun A W a1 q1 a2 q2 f hf h => app9b (w := w) (A := A) (W := W) (a1 := a1) (q1 := q1) (a2 := a2) (q2 := q2) hT f hf h)
  have HSP := Lib.hid (fun A W a1 q1 a2 q2 f h => spoil9 (w := w) (A := A) (W := W) (a1 := a1) (q1 := q1) (a2 := a2) (q2 := q2) f h)
  have HRD := Lib.hid (fun A W a1 q1 a2 q2 f hf h => read9 (w := w) (A := A) (W := W) (a1 := a1) (q1 := q1) (a2 := a2) (q2 := q2) hT f hf h)
  obtain ⟨hx, HX2⟩ := r9_is
  generalize r9 = pd at *
  clear hT
  unfold geoV NewC at *
  obtain ⟨wa, hwa⟩ : ∃ wa, wa = w.alloc (.cells #[.int .i64 2, .int .i64 8, .int .i64 1, .int .i64 32, .int .i64 1] 27) := ⟨_, rfl⟩
  have hB : wa.heap[w.heap.size]? = some (.cells #[.int .i64 2, .int .i64 8, .int .i64 1, .int .i64 32, .int .i64 1] 27 (0, 0)) := by rw [hwa]; exact heap_alloc_new w _
  have UA : Hid (Upd noBlock w wa) := by rw [hwa]; exact (Upd.refl _ _).alloc _
  have HGC : Hid (∀ W, Upd noBlock wa W → W.cell? ⟨w.heap.size, 0, none⟩ = some (.int .i64 2) ∧ W.cell? ⟨w.heap.size, 1, none⟩ = some (.int .i64 8) ∧ W.cell? ⟨w.heap.size, 2, none⟩ = some (.int .i64 1) ∧ W.cell? ⟨w.heap.size, 3, none⟩ = some (.int .i64 32) ∧ W.cell? ⟨w.heap.size, 4, none⟩ = some (.int .i64 1)) := fun W hW => geo_cells ((hW.block _ (lt_of_block hB) id).trans hB)
  obtain ⟨z0, z1, z2, z3, z4⟩ := geo_cells hB
  clear hB
  go_enter Tryz.func7, Tryz.ntmps7
  go_upto_region 2 with fail
  rw [← hwa]
  clear hwa
  go_wp2_with (first
    | (go_at_call 9; (with_reducible refine (HCH.out _).mono ?_); rintro e w2 ⟨ch, bb, pb, rfl, hc, hu, hl⟩; have C2 := Lib.hid hc; have U2 : Hid (Upd noBlock w w2) := UA.out.trans hu; have L2 : Hid (∀ i, Own ch bb pb 2 i → w.heap.size ≤ i) := fun i hi => Nat.le_trans UA.out.size (hl i hi); obtain ⟨z0, z1, z2, z3, z4⟩ := HGC.out _ hu; clear hc hu hl)
    | (go_at_call 10; (with_reducible refine (HAT.out ch bb pb _ C2.out U2.out L2.out).mono ?_); rintro e w3 ⟨A, rfl, hv, e1, e2, e3, hc, hk, ht⟩; subst e1; have N3 := Lib.hid hv; have K3 : Hid (A.c = 1 ∧ A.k = 32 ∧ A.t = 1) := ⟨hc, hk, ht⟩; clear hv e2 e3 hc hk ht)
    | (go_at_call 23; (with_reducible refine (HMP.out _ _ N3.out K3.out.1 K3.out.2.1 K3.out.2.2).mono ?_); rintro e w4 ⟨rfl, a1, q1, a2, q2, hs⟩; have S4 := Lib.hid hs; clear hs)
    | (go_at_call 24; (with_reducible refine (HA1.out _ _ _ _ _ _ S4.out).mono ?_); rintro e w5 ⟨rfl, f5, hf, hs⟩; have S5 := Lib.hid hs; have F5 := Lib.hid hf; clear hs hf)
    | (go_at_call 24; (with_reducible refine (HA2.out _ _ _ _ _ _ _ F5.out S5.out).mono ?_); rintro e w6 ⟨rfl, f6, hf, hs⟩; have S6 := Lib.hid hs; have F6 := Lib.hid hf; clear hs hf)
    | (go_at_call 15; (with_reducible refine (HSP.out _ _ _ _ _ _ _ S6.out).mono ?_); rintro e w7 ⟨rfl, hs⟩; have S7 := Lib.hid hs; clear hs)
    | (go_at_call 16; (with_reducible refine (HRD.out _ _ _ _ _ _ _ F6.out S7.out).mono ?_); rintro e w8 ⟨rfl, hu⟩; have U8 := Lib.hid hu; clear hu))
  go_ret
  exact ⟨rfl, U8.out⟩
end Go.Proofs.YtoledgpcgjdjjaaGreatDoor

/- LebNil, walked. -/
namespace Go.Proofs.YtoledgpcgjdjjaaGreatDoor
open F
open Go.RowKit Pm Cm
set_option linter.unusedVariables false

set_option maxRecDepth 100000 in
set_option maxHeartbeats 3200000 in
theorem lebNil_any (x y : Int) (w : World) (hT : Tab w) : Calls Tryz.prog 4 #[.int .i64 x, .int .i64 y] w fun e w' => e = .returned (.bool true) ∧ Upd noBlock w w' := by
  have HS := Lib.hid (speaks9_any w hT)
  go_enter Tryz.func4, Tryz.ntmps4
  go_wp2_with (first
    | (go_at_call 7; (with_reducible refine HS.out.mono ?_); rintro e w1 ⟨rfl, hu⟩; have U1 := Lib.hid hu; clear hu)
    | (go_at_call 20; (with_reducible refine (room_nil true _).mono ?_); rintro e w2 ⟨rfl, hu⟩; have U2 := Lib.hid (U1.out.trans hu); clear hu)
    | (go_at_call 21; (with_reducible refine (count_nil x _).mono ?_); rintro e w3 ⟨rfl, hu⟩; have U3 := Lib.hid (U2.out.trans hu); clear hu)
    | (go_at_call 16; (with_reducible refine (vread_nil x y _).mono ?_); rintro e w4 ⟨rfl, hu⟩; have U4 := Lib.hid (U3.out.trans hu); clear hu)
    | (go_at_call 22; (with_reducible refine (ids_nil _).mono ?_); rintro e w5 ⟨rfl, hu⟩; have U5 := Lib.hid (U4.out.trans hu); clear hu)
    | (go_at_call 23; (with_reducible refine (map_nil x true _).mono ?_); rintro e w6 ⟨rfl, hu⟩; have U6 := Lib.hid (U5.out.trans hu); clear hu)
    | (go_at_call 24; (with_reducible refine (append_nil_v x ⟨#[]⟩ _).mono ?_); rintro e w7 ⟨rfl, hu⟩; have U7 := Lib.hid (U6.out.trans hu); clear hu)
    | (go_at_call 25; (with_reducible refine (close_nil x _).mono ?_); rintro e w8 ⟨rfl, hu⟩; have U8 := Lib.hid (U7.out.trans hu); clear hu)
    | (go_at_call 26; (with_reducible refine (unmap_nil x _).mono ?_); rintro e w9 ⟨rfl, hu⟩; have U9 := Lib.hid (U8.out.trans hu); clear hu)
    | (go_at_call 13; (with_reducible refine (change_nil x true _).mono ?_); rintro e w10 ⟨rfl, hu⟩; have U10 := Lib.hid (U9.out.trans hu); clear hu)
    | (go_at_call 27; (with_reducible refine (blocks_nil _).mono ?_); rintro e w11 ⟨rfl, hu⟩; have U11 := Lib.hid (U10.out.trans hu); clear hu))
  go_ret
  exact ⟨rfl, U11.out⟩
theorem lebNil_walk (x y : Int) (w : World) (_ : (Lit.int .i64 x).wf = true) (_ : (Lit.int .i64 y).wf = true) (hT : Tab w) :
    Calls Tryz.prog 4 #[.int .i64 x, .int .i64 y] w fun e w' => e = .returned (.bool true) ∧ Below w.heap.size w w' :=
  (lebNil_any x y w hT).mono fun _ _ ⟨he, hu⟩ => ⟨he, hu.below (fun _ _ h => h)⟩
end Go.Proofs.YtoledgpcgjdjjaaGreatDoor

/- LebAlike: a block mapped and unmapped; blocks stay alike. -/
namespace Go.Proofs.YtoledgpcgjdjjaaGreatDoor
open F
open Go.RowKit Pm Cm
set_option linter.unusedVariables false
attribute [local irreducible] openL decUp empUp Lib.onesCount parT sealed beZ valN labelL pageL xorB padL

def Alike (M : Ch) (nb : Nat) : Prop := ∃ e, ∀ k, k < nb → e ≤ (M.bk k).er ∧ (M.bk k).er ≤ e + 1
def usedM (M : Ch) (b : Nat) (l : List UInt8) : Ch := (M.progM b 0 l).eraseM b
section
variable {M : Ch} {nb np sz n : Nat}
theorem Blank.prog (h : Blank M nb np sz n) (b : Nat) (l : List UInt8) : M.progE b 0 = 0 ∧ M.progM b 0 l = M.changed.setBk b ((M.bk b).setPg 0 (((M.bk b).pg 0).write l)) := by
  have ht : M.torn = false := by unfold Ch.torn; rw [h.left]; rfl
  have hbl : blankFrom (M.bk b) M.np 0 = true := blank_yes fun r hr _ => by rw [h.pgs]; rfl
  exact ⟨by unfold Ch.progE; simp [h.off, h.worn, ht, hbl], by unfold Ch.progM; simp [h.off, h.worn, ht, hbl]⟩
theorem Blank.used (h : Blank M nb np sz n) (b : Nat) (l : List UInt8) : (M.progM b 0 l).eraseE b = 0 ∧ Blank (usedM M b l) nb np sz (n + 2) ∧ ∀ k, ((usedM M b l).bk k).er = if k = b then (M.bk b).er + 1 else (M.bk k).er := by
  have hp := (h.prog b l).2
  have hf := (h.fit.prog b 0 l).erase b
  have ho : (M.progM b 0 l).off = false := by rw [hp]; show (M.left == 1) = false; rw [h.left]; rfl
  have hl : (M.progM b 0 l).left = 0 := by rw [hp]; show M.left - 1 = 0; rw [h.left]
  have hbk : (M.progM b 0 l).bk b = (M.bk b).setPg 0 (((M.bk b).pg 0).write l) := by rw [hp]; show (if b = b then _ else _) = _; rw [if_pos rfl]
  have hw : ((M.progM b 0 l).bk b).worn = false := by rw [hbk]; exact h.worn b
  have ht : (M.progM b 0 l).torn = false := by unfold Ch.torn; rw [hl]; rfl
  have hm : usedM M b l = (M.progM b 0 l).changed.setBk b (((M.progM b 0 l).bk b).counted.allPg fun _ => pg0) := by
    unfold usedM Ch.eraseM; simp [ho, hw, ht]
  have hko : ∀ k, k ≠ b → (M.progM b 0 l).bk k = M.bk k := fun k hk => by rw [hp]; show (if k = b then _ else _) = _; rw [if_neg hk]; rfl
  have hub : (usedM M b l).bk b = ((M.progM b 0 l).bk b).counted.allPg fun _ => pg0 := by rw [hm]; show (if b = b then _ else _) = _; rw [if_pos rfl]
  have hun : ∀ k, k ≠ b → (usedM M b l).bk k = M.bk k := fun k hk => by rw [hm]; show (if k = b then _ else _) = _; rw [if_neg hk]; exact hko k hk
  refine ⟨by unfold Ch.eraseE; simp [ho, hw, ht], ⟨?_, ?_, ?_, ?_, ?_, ?_, ?_, ?_, ?_⟩, ?_⟩
  · rw [hm, hp]; exact h.nb
  · rw [hm, hp]; exact h.np
  · rw [hm, hp]; exact h.sz
  · rw [hm]; show ((M.progM b 0 l).left == 1) = false; rw [hl]; rfl
  · rw [hm, hp]; exact h.most
  · rw [hm]; show (M.progM b 0 l).left - 1 = 0; rw [hl]
  · intro k
    by_cases e : k = b
    · subst e; rw [hub]; exact hw
    · rw [hun k e]; exact h.worn k
  · intro k p
    by_cases e : k = b
    · subst e; rw [hub]; rfl
    · rw [hun k e]; exact h.pgs k p
  · exact hf
  · intro k
    by_cases e : k = b
    · subst e; rw [if_pos rfl, hub]
      show ((M.progM k 0 l).bk k).er + 1 = _
      rw [hbk]; rfl
    · rw [if_neg e, hun k e]
theorem Alike.used (ha : Alike M nb) (h : Blank M nb np sz n) (b : Nat) (hb : b < nb) (hl : ∀ k, k < nb → (M.bk b).er ≤ (M.bk k).er) (l : List UInt8) : Alike (usedM M b l) nb := by
  obtain ⟨e, he⟩ := ha
  have hu := (h.used b l).2.2
  by_cases h0 : (M.bk b).er = e
  · refine ⟨e, fun k hk => ?_⟩
    rw [hu k]
    split
    · omega
    · exact he k hk
  · have hbe := he b hb
    refine ⟨e + 1, fun k hk => ?_⟩
    rw [hu k]
    have h1 := hl k hk
    have h2 := he k hk
    split <;> omega
end
section
variable {w : World} {A : Vp} {W : World} {M : Ch} {V : Vo} {nb n i : Nat}
structure Idle (V : Vo) (i : Nat) : Prop where
  off : V.off = false
  worn : V.worn = fun _ => false
  none : ∀ x, Wf x → V.f x = Option.none
  turn : V.turn = i
  n : V.n ≤ i
theorem pick_blank (h : VolIn W A M V) (hB : Blank M nb 8 34 n) (hw : V.worn = fun _ => false) (hnb : 1 ≤ nb) : ∃ b, b < nb ∧ (∀ k, k < nb → (M.bk b).er ≤ (M.bk k).er) ∧ Pr.leastL (freeB M V M.nb) (Pr.chosenL Pr.Bk.spare (freeB M V M.nb) M.nb) = (b : Int) := by
  have hfr : ∀ k, k < nb → freeB M V M.nb k = ⟨((M.bk k).er : Int), ((M.bk k).rd : Int), false, false⟩ := fun k hk => by
    unfold freeB
    rw [if_pos (by rw [hB.nb]; exact hk), hw]
  have hsp : ∀ k, k < nb → Pr.Bk.spare (freeB M V M.nb k) = true := fun k hk => by rw [hfr k hk]; rfl
  rcases Pr.picked_any Pr.Bk.spare (freeB M V M.nb) M.nb with ⟨-, h2⟩ | ⟨q, h1, h2, h3, h4, h5⟩
  · have h9 := h2 0 (by rw [hB.nb]; omega)
    rw [hsp 0 (by omega)] at h9
    exact absurd h9 (by decide)
  · rw [hB.nb] at h1
    refine ⟨q, h1, fun k hk => ?_, h2⟩
    have h9 := h4 k (by rw [hB.nb]; exact hk) (hsp k hk)
    rw [hfr q h1, hfr k hk] at h9
    exact Int.ofNat_le.1 h9
structure Mid (w : World) (A : Vp) (M : Ch) (i b : Nat) (W : World) : Prop where
  l : ∃ (V : Vo) (l : List UInt8) (D P : Value) (n1 : Nat) (a1 : Option Addr) (q1 : Nat) (n2 : Nat) (a2 : Option Addr) (q2 : Nat), VN w A (M.progM b 0 l) V W ∧ V.off = false ∧ (V.worn = fun _ => false) ∧ V.turn = i + 1 ∧ V.n ≤ i + 1 ∧ (∀ x, Wf x → x ≠ (i : Int) → V.f x = none) ∧ D = .slice a1 n1 q1 ∧ P = .slice a2 n2 q2 ∧ V.f (i : Int) = some (.agg (sdC (begunD (i : Int) (i + 1) true false b D P)))
theorem map_alike (hT : Tab w) (h : VN w A M V W) (hB : Blank M nb 8 34 n) (hI : Idle V i) (hi : i ≤ 1000) (hn : n ≤ 100000) (hnb : 1 ≤ nb) (hc : A.c = 1) (hk : A.k = 32) :
    ∃ b, b < nb ∧ (∀ k, k < nb → (M.bk b).er ≤ (M.bk k).er) ∧ Calls Tryz.prog 23 #[.pointer (some ⟨A.v, 0, none⟩), .int .i64 (i : Int), .bool true] W fun r w' => r = .returned (.int .i64 0) ∧ Mid w A M i b w' := by
  have hroom : A.room = 25 := by unfold Vp.room; rw [hc, hk]
  obtain ⟨b, hb, hle, hpk⟩ := pick_blank h.i hB hI.worn hnb
  refine ⟨b, hb, hle, ?_⟩
  have hw : ∀ l, wrP A V M b 0 l = ⟨0, V, M.progM b 0 (pageL A.t A.k A.c l)⟩ := fun l => by
    unfold wrP
    rw [if_neg (by rw [hI.off]; decide), (hB.prog b (pageL A.t A.k A.c l)).1]; rfl
  have hbe : beginP A V M b (i : Int) true false = ⟨0, { V with turn := V.turn + 1 }, M.progM b 0 (pageL A.t A.k A.c (labelL (i : Int) ((V.turn + 1 : Nat) : Int) true false))⟩ := by
    have h1 : firstP A V M b (labelL (i : Int) ((V.turn + 1 : Nat) : Int) true false) = ⟨0, V, M.progM b 0 (pageL A.t A.k A.c (labelL (i : Int) ((V.turn + 1 : Nat) : Int) true false))⟩ := by
      unfold firstP
      rw [hw, if_pos (by show (0 : Int) ≠ 21; omega)]
    unfold beginP
    rw [h1, if_neg (by simp)]
  have hnp := hB.np
  have h9 := map_new b n (i : Int) true h.i hI.none (h.tab hT) hB.fit (by omega) (by rw [hB.nb]; exact hb) (by rw [hroom]; omega) (by rw [hI.turn]; omega) hpk (by rw [hbe]) (by rw [hnp]; decide) (by rw [hnp]; decide) ((okN_iff _).2 (by omega)) (by rw [hbe]; show V.n < maxLen; have := hI.n; simp only [maxLen]; omega)
  rw [hbe] at h9
  refine h9.mono fun r w' ⟨hr, D, P, hv, hD, hP⟩ => ⟨hr, ?_⟩
  obtain ⟨a1, q1, hD1, -, -, -⟩ := hD.sl
  obtain ⟨a2, q2, hP1, -, -, -⟩ := hP.sl
  have hkn : (M.progM b 0 (pageL A.t A.k A.c (labelL (i : Int) ((V.turn + 1 : Nat) : Int) true false))).nb = M.nb := (progM_shape M b 0 _).1
  refine ⟨⟨_, _, D, P, _, a1, q1, _, a2, q2, h.go hv hkn, hI.off, hI.worn, ?_, ?_, fun x hx hne => ?_, hD1, hP1, ?_⟩⟩
  · show V.turn + 1 = i + 1; rw [hI.turn]
  · show V.n + 1 ≤ i + 1; have := hI.n; omega
  · show putI V.f (i : Int) _ x = none
    unfold putI
    rw [if_neg hne]; exact hI.none x hx
  · show putI V.f (i : Int) _ (i : Int) = _
    unfold putI
    rw [if_pos rfl, hI.turn]
theorem unmap_alike (hB : Blank M nb 8 34 n) (b : Nat) (hb : b < nb) (hi : i ≤ 1000) (hn : n ≤ 100000) (h : Mid w A M i b W) :
    Calls Tryz.prog 26 #[.pointer (some ⟨A.v, 0, none⟩), .int .i64 (i : Int)] W fun r w' => r = .returned (.int .i64 0) ∧ ∃ V' l, VN w A (usedM M b l) V' w' ∧ Idle V' (i + 1) := by
  obtain ⟨V, l, D, P, n1, a1, q1, n2, a2, q2, hv, ho, hw, ht, hn2, hnone, rfl, rfl, hf⟩ := h.l
  obtain ⟨hE, hU, -⟩ := hB.used b l
  have he : erP V (M.progM b 0 l) b = ⟨0, V, usedM M b l⟩ := by
    unfold erP
    rw [if_neg (by rw [ho]; decide), hE]; rfl
  have hkn : (M.progM b 0 l).nb = M.nb := (progM_shape M b 0 l).1
  have h9 := unmap_there (n + 1) (i : Int) (i : Int) ((i + 1 : Nat) : Int) true false b a1 n1 q1 a2 n2 q2 0 false false ⟨(labelL (i : Int) ((i + 1 : Nat) : Int) true false).toArray⟩ ⟨#[]⟩ hv.i (hB.fit.prog b 0 l) (by omega) (by rw [hkn, hB.nb]; exact hb) (wf_nat (by omega)) hf (by rw [he]; show (0 : Int) ≠ 20; omega)
  rw [he] at h9
  refine h9.mono fun r w' ⟨hr, hg⟩ => ⟨hr, _, l, hv.go hg (hU.nb.trans (hkn.trans hB.nb).symm), ⟨ho, hw, fun x hx => ?_, ht, hn2⟩⟩
  show delI V.f (i : Int) x = none
  unfold delI
  split
  · rfl
  · exact hnone x hx (by assumption)
end
end Go.Proofs.YtoledgpcgjdjjaaGreatDoor
