/- The law's speaks and same. -/
import Derived.Test.YtcfilepilgjlaaaDoorEi
namespace Go.Proofs.YtcfilepilgjlaaaDoor
open Go.RowKit

theorem Chs.slice {w w' : World} {nm : Int} {v : Value} {L : List (Int × List UInt8)} (h : Chs w w' nm v L) : ∃ a c, v = .slice a L.length c ∧ L.length ≤ c ∧ (0 < L.length → ∃ g, a = some ⟨g, 0, none⟩ ∧ w.heap.size ≤ g ∧ ∀ j u, (chL nm L)[j]? = some u → w'.cell? ⟨g, j, none⟩ = some u) := by
  rcases h.own.2 with ⟨h1, h2⟩ | ⟨g, cap, cur, rfl, hb, hg, hnc, hcm, hsz, htake⟩
  · exact ⟨none, 0, by rw [h1, h2], by omega, fun h3 => by omega⟩
  · refine ⟨_, _, rfl, hnc, fun _ => ⟨g, rfl, hb, fun j u hj => ?_⟩⟩
    have := h.own.cells (g := g) rfl j u hj
    rwa [add_zero_addr] at this
theorem speak_list : (wrL 62 [97, 98, 99, 100] []).map (fun c => (c.1, c.2.isEmpty)) = [(0, false), (1, false)] := by decide +kernel
set_option maxRecDepth 20000 in
set_option maxHeartbeats 1600000 in
theorem speaksE_any (w : World) : Calls Tryd.prog 7 #[] w fun e w' => e = .returned (.bool true) ∧ Upd noBlock w w' := by
  have H := Write_any 3 0 62 [97, 98, 99, 100] none 0 0 0 [] w ⟨Row1.nil w 0 none, fun s hs => by cases hs⟩ (Nat.zero_le _) (Nat.le_refl _) (by decide)
  have e1 : wrS 0 62 [97, 98, 99, 100] = 66 := by decide +kernel
  have e2 : wrE 62 [97, 98, 99, 100] = 0 := by decide +kernel
  have e3 := speak_list
  obtain ⟨L, hL⟩ : ∃ L, wrL 62 [97, 98, 99, 100] [] = L := ⟨_, rfl⟩
  rw [e1, e2, hL] at H
  rw [hL] at e3
  have e4 : ∃ t0 t1, L = [(0, t0), (1, t1)] ∧ t0.isEmpty = false ∧ t1.isEmpty = false := by
    match L, e3 with
    | [(a, b), (c, d)], e => simp only [List.map_cons, List.map_nil, List.cons.injEq, Prod.mk.injEq, and_true] at e; obtain ⟨⟨rfl, h1⟩, rfl, h2⟩ := e; exact ⟨b, d, rfl, h1, h2⟩
  obtain ⟨t0, t1, rfl, z0, z1⟩ := e4
  have HW := Lib.hid H
  clear H e1 e2 e3 hL
  go_enter Tryd.func7, Tryd.ntmps7
  go_wp2_with (go_at_call 8; refine HW.out.mono ?_; rintro e w1 ⟨v, rfl, k⟩; (obtain ⟨a, c, rfl, hc, hx⟩ := k.slice); (obtain ⟨g, rfl, hg, hx⟩ := hx (by simp)); have c9 : w1.cell? ⟨g, 9, none⟩ = some (.int .i64 1) := hx 9 _ rfl; have c11 : w1.cell? ⟨g, 11, none⟩ = some (.bool false) := (by have h11 := hx 11 (.bool t1.isEmpty) rfl; rw [z1] at h11; exact h11); have HU := Lib.hid k.up; clear k hx)
  go_ret
  exact ⟨rfl, HU.out⟩
/-- the cells of the document's changes -/
def dcC (nm : Int) (c : Int × List UInt8) : List Value := [.string ⟨(kT nm c.1).toArray⟩, .string ⟨c.2.toArray⟩, .bool c.2.isEmpty]
def dcL (nm : Int) (L : List (Int × List UInt8)) : List Value := (L.map (dcC nm)).flatten
theorem dcL_snoc (nm : Int) (L : List (Int × List UInt8)) (c : Int × List UInt8) : dcL nm (L ++ [c]) = dcL nm L ++ dcC nm c := by simp [dcL]
theorem rows_get {α : Type} (m : Nat) (f : α → List Value) (hf : ∀ x, (f x).length = m) : ∀ (L : List α) (k i : Nat) (hk : k < L.length), i < m → (L.map f).flatten[k * m + i]? = (f L[k])[i]?
  | [], k, i, hk, _ => absurd hk (Nat.not_lt_zero k)
  | x :: L, 0, i, _, hi => by
    rw [List.map_cons, List.flatten_cons, Nat.zero_mul, Nat.zero_add, List.getElem?_append_left (by rw [hf]; exact hi)]; rfl
  | x :: L, k + 1, i, hk, hi => by
    rw [List.map_cons, List.flatten_cons, List.getElem?_append_right (by rw [hf, Nat.succ_mul]; omega), hf, show (k + 1) * m + i - m = k * m + i by rw [Nat.succ_mul]; omega]
    rw [rows_get m f hf L k i (by simpa using hk) hi]; rfl
structure Dhs (w wr : World) (nm : Int) (v : Value) (L : List (Int × List UInt8)) : Prop where
  own : wr.ownsRow w.heap.size 56 3 v L.length (dcL nm L)
  up : Upd noBlock w wr
theorem Dhs.nil (w : World) (nm : Int) : Dhs w w nm (.slice none 0 0) [] := ⟨World.ownsRow_nil _ _ _ _, Upd.refl _ _⟩
theorem Dhs.grow {w wr wr' : World} {nm : Int} {v : Value} {L : List (Int × List UInt8)} (h : Dhs w wr nm v L) (hu : Upd noBlock wr wr') : Dhs w wr' nm v L := ⟨own_grow8 h.own hu, h.up.trans hu⟩
theorem Dhs.back {w w1 w2 : World} {nm : Int} {v : Value} {L : List (Int × List UInt8)} (h : Dhs w1 w2 nm v L) (hu : Upd noBlock w w1) : Dhs w w2 nm v L := ⟨own_more8 h.own hu.size, hu.trans h.up⟩
theorem Dhs.snoc {w w1 w2 : World} {nm : Int} {v v' : Value} {L : List (Int × List UInt8)} (c : Int × List UInt8) (h : Dhs w w1 nm v L) (hg : w1.grownBy w2 v.ownBlock) (ho : w2.ownsRow w.heap.size 56 3 v' (L.length + 1) (dcL nm L ++ dcC nm c)) : Dhs w w2 nm v' (L ++ [c]) :=
  ⟨by rw [List.length_append, List.length_singleton, dcL_snoc]; exact ho, upd_of_grown h.up hg (fun k hk => .inr (own_base8 h.own k hk).1)⟩
theorem Dhs.slice {w w' : World} {nm : Int} {v : Value} {L : List (Int × List UInt8)} (h : Dhs w w' nm v L) : ∃ a c, v = .slice a L.length c ∧ L.length ≤ c ∧ (0 < L.length → ∃ g, a = some ⟨g, 0, none⟩ ∧ w.heap.size ≤ g ∧ ∀ j u, (dcL nm L)[j]? = some u → w'.cell? ⟨g, j, none⟩ = some u) := by
  rcases h.own.2 with ⟨h1, h2⟩ | ⟨g, cap, cur, rfl, hb, hg, hnc, hcm, hsz, htake⟩
  · exact ⟨none, 0, by rw [h1, h2], by omega, fun h3 => by omega⟩
  · refine ⟨_, _, rfl, hnc, fun _ => ⟨g, rfl, hb, fun j u hj => ?_⟩⟩
    have := h.own.cells (g := g) rfl j u hj
    rwa [add_zero_addr] at this
/-- what the law holds against each other -/
def GoodL (nm : Int) (L : List (Int × List UInt8)) : Prop := ∀ k (h : k < L.length), goodK nm 3 [] L[k].1 = true ∧ L[k].2.length ≤ 64
set_option maxRecDepth 100000 in
set_option maxHeartbeats 3200000 in
theorem same_any (nm : Int) (L : List (Int × List UInt8)) (v v' : Value) (wa wb w : World) (h1 : Chs wa w nm v L) (h2 : Dhs wb w nm v' L) (hL : GoodL nm L) (hlen : L.length ≤ 1048576) :
    Calls Tryd.prog 11 #[v, v'] w fun e w' => e = .returned (.bool true) ∧ Upd noBlock w w' := by
  obtain ⟨a, c, rfl, hc, hx⟩ := h1.slice
  obtain ⟨a', c', rfl, hc', hy⟩ := h2.slice
  have HX := Lib.hid hx
  have HY := Lib.hid hy
  obtain ⟨n, hn⟩ : ∃ n, L.length = n := ⟨_, rfl⟩
  have HN := Lib.hid hn
  rw [hn] at hlen hc hc' HX HY
  rw [hn]
  have HG := Lib.hid hL
  clear h1 h2 hx hy hL hn
  go_enter Tryd.func11, Tryd.ntmps11
  go_wp2
  go_loopw [5] (fun x wr => ∃ k : Nat, k ≤ n ∧ x = .int .i64 (k : Int) ∧ Hid (Upd noBlock w wr)) (fun x _ => n - (intOf x).toNat)
  case atStart => exact ⟨0, Nat.zero_le _, rfl, Upd.refl _ _⟩
  case round =>
    obtain ⟨k, hk, rfl, HU⟩ := hrel
    by_cases h0 : k < n
    · obtain ⟨g, rfl, _, hcell⟩ := HX.out (by omega)
      obtain ⟨g', rfl, _, hcell'⟩ := HY.out (by omega)
      have hkl : k < L.length := by rw [HN.out]; exact h0
      obtain ⟨hgd, hl64⟩ := HG.out k hkl
      have hr := fun i (hi : i < 6) => rows_get 6 (fun c : Int × List UInt8 => (chC nm c.1 c.2).toList) (fun _ => rfl) L k i hkl hi
      have hr' := fun i (hi : i < 3) => rows_get 3 (dcC nm) (fun _ => rfl) L k i hkl hi
      obtain ⟨p, t, hpt⟩ : ∃ p t, L[k] = (p, t) := ⟨_, _, rfl⟩
      rw [hpt] at hgd hl64
      simp only [hpt] at hr hr'
      have HCF : Hid (∀ W, Upd noBlock w W → (W.cell? ⟨g, k * 6, none⟩ = some (.int .i64 nm) ∧ W.cell? ⟨g, k * 6 + 1, none⟩ = some (.int .i64 3) ∧ W.cell? ⟨g, k * 6 + 2, none⟩ = some (.string ⟨#[]⟩) ∧ W.cell? ⟨g, k * 6 + 3, none⟩ = some (.int .i64 p) ∧ W.cell? ⟨g, k * 6 + 4, none⟩ = some (.string ⟨(if t = [] then [] else packL t).toArray⟩) ∧ W.cell? ⟨g, k * 6 + 5, none⟩ = some (.bool t.isEmpty)) ∧
          W.cell? ⟨g', k * 3, none⟩ = some (.string ⟨(kT nm p).toArray⟩) ∧ W.cell? ⟨g', k * 3 + 1, none⟩ = some (.string ⟨t.toArray⟩) ∧ W.cell? ⟨g', k * 3 + 2, none⟩ = some (.bool t.isEmpty)) := fun W hu =>
        ⟨⟨upd_cell hu (hcell _ _ (hr 0 (by decide))), upd_cell hu (hcell _ _ (hr 1 (by decide))), upd_cell hu (hcell _ _ (hr 2 (by decide))), upd_cell hu (hcell _ _ (hr 3 (by decide))), upd_cell hu (hcell _ _ (hr 4 (by decide))), upd_cell hu (hcell _ _ (hr 5 (by decide)))⟩,
          upd_cell hu (hcell' _ _ (hr' 0 (by decide))), upd_cell hu (hcell' _ _ (hr' 1 (by decide))), upd_cell hu (hcell' _ _ (hr' 2 (by decide)))⟩
      have HE := Lib.hid (fun W => Encode_any nm 3 [] p W (by decide))
      have HP := Lib.hid (fun W => Plain_any t W hl64)
      have ek : (if goodK nm 3 [] p = true then encK nm 3 [] p else []) = kT nm p := rfl
      rw [hgd] at HE
      simp only [hgd, if_true] at ek HE
      rw [ek] at HE
      obtain ⟨qk, hqk⟩ : ∃ q : ByteArray, ⟨(kT nm p).toArray⟩ = q := ⟨_, rfl⟩
      obtain ⟨qt, hqt⟩ : ∃ q : ByteArray, ⟨t.toArray⟩ = q := ⟨_, rfl⟩
      rw [hqk] at HE HCF
      rw [hqt] at HP HCF
      obtain ⟨⟨k0, k1, k2, k3, k4, k5⟩, d0, d1, d2⟩ := HCF.out wr HU.out
      clear hr hr' hpt hcell hcell' hqk ek hgd hkl
      by_cases ht : t = []
      · subst ht
        have e1 : ([] : List UInt8).isEmpty = true := rfl
        have hq : qt = ⟨#[]⟩ := hqt.symm
        subst hq
        clear hqt
        rw [if_pos rfl] at k4 HCF
        rw [e1] at k5 d2 HCF
        go_wp2_with (first | (go_at_call 21; refine (HE.out _).mono ?_; rintro e w1 ⟨rfl, u1⟩; have U1 := Lib.hid (HU.out.trans u1); (obtain ⟨⟨j0, j1, j2, j3, j4, j5⟩, b0, b1, b2⟩ := HCF.out w1 (HU.out.trans u1)); clear u1))
        clear k0 k1 k2 k3 k4 k5 d0 d1 d2
        go_quiet (fail)
        go_wp2
        go_roundw
        case rel => exact ⟨k + 1, by omega, by go_num, U1.out.drewN _⟩
        case measure => simp [intOf] <;> omega
      · have e1 : t.isEmpty = false := by cases t with | nil => exact absurd rfl ht | cons => rfl
        rw [if_neg ht] at k4 HCF
        rw [e1] at k5 d2 HCF
        obtain ⟨qp, hqp⟩ : ∃ q : ByteArray, ⟨(packL t).toArray⟩ = q := ⟨_, rfl⟩
        rw [hqp] at k4 HCF HP
        clear hqt hqp ht e1
        go_wp2_with (first | (go_at_call 21; refine (HE.out _).mono ?_; rintro e w1 ⟨rfl, u1⟩; have U1 := Lib.hid (HU.out.trans u1); (obtain ⟨⟨j0, j1, j2, j3, j4, j5⟩, b0, b1, b2⟩ := HCF.out w1 (HU.out.trans u1)); clear u1))
        clear k0 k1 k2 k3 k4 k5 d0 d1 d2
        go_quiet (fail)
        go_wp2_with (first | (go_at_call 13; refine (HP.out _).mono ?_; rintro e w2 ⟨rfl, u2⟩; have U2 := Lib.hid ((U1.out.drewN _).trans u2); (obtain ⟨_, i0, i1, i2⟩ := HCF.out w2 ((U1.out.drewN _).trans u2)); clear u2))
        go_roundw
        case rel => exact ⟨k + 1, by omega, by go_num, U2⟩
        case measure => simp [intOf] <;> omega
    · obtain rfl : k = n := by omega
      go_wp2
      go_ret
      exact ⟨rfl, HU.out⟩
end Go.Proofs.YtcfilepilgjlaaaDoor
