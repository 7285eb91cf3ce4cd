/- PackPages. -/
import Derived.Test.YtpbfealmhonbnaaQf
namespace Go.Proofs.Ytpbfealmhonbnaa
open Go.RowKit

theorem addQ_pst (s p m : Nat) (H q : ByteArray) (hq : q.size = m) (h1 : 1 ≤ m) (h2 : m ≤ s) : ∃ (r : ByteArray) (b : Bool) (H' : ByteArray) (dp : Nat), addQ s H q = (r, b, 0, H', dp) ∧ (H'.size, p + dp) = pstep s (H.size, p) (m : Int) := by
  unfold addQ pstep
  rw [if_neg (by omega), if_neg (by omega), hq]
  show ∃ _ _ _ _, _ ∧ _ = if H.size + m ≤ s then (H.size + m, p) else (m, p + 1)
  by_cases h : H.size + m ≤ s
  · rw [if_pos h, if_pos h]
    exact ⟨_, _, _, _, rfl, by rw [size_app, hq]; rfl⟩
  · rw [if_neg h, if_neg h]
    exact ⟨_, _, _, _, rfl, by rw [hq]⟩
/-- the packer of a law -/
structure PL (w0 w : World) (B g s : Nat) (H : ByteArray) (p : Nat) : Prop where
  pk : PK w B g s H.data.toList p
  up : Upd noBlock w0 w
  hB : w0.heap.size ≤ B
  hg : w0.heap.size ≤ g
theorem PL.turn {w0 w w1 : World} {B g s : Nat} {H H' : ByteArray} {p p' : Nat} (h : PL w0 w B g s H p) (hp : PK w1 B g s H'.data.toList p') (ht : Turn B g w w1) : PL w0 w1 B g s H' p' := ⟨hp, ht.upd h.up h.hB (.inr h.hg), h.hB, h.hg⟩
theorem PL.upd {w0 w w1 : World} {B g s : Nat} {H : ByteArray} {p : Nat} (h : PL w0 w B g s H p) (hu : Upd noBlock w w1) : PL w0 w1 B g s H p := ⟨h.pk.upd hu, h.up.trans hu, h.hB, h.hg⟩
theorem quiet_eqQ {P : Program} {f : FuncId} {args : Array Value} {w : World} {n : Nat} {v : Value}
    (h : Calls P f args (w.drewN n) fun e w' => e = .returned v ∧ w.drewN n = w') : Calls P f args (w.drewN n) fun e w'' => e = .returned v ∧ ∃ m, w'' = w.drewN m :=
  h.mono fun _ _ ⟨he, hm⟩ => ⟨he, n, hm.symm⟩
theorem intParts13 : ∃ i0, Try.prog.info? 3 = some i0 ∧ i0.zero = some (.int .i64 0) ∧ i0.size = 1 ∧ i0.bytes = 8 := by
  have h : (Try.prog.info? 3).map (fun i => (i.zero, i.size, i.bytes)) = some (some (.int .i64 0), 1, 8) := by kernel_rfl
  obtain ⟨i0, h1, h2⟩ := Option.map_eq_some_iff.1 h
  simp only [Prod.mk.injEq] at h2
  exact ⟨i0, h1, h2.1, h2.2.1, h2.2.2⟩
set_option maxRecDepth 100000 in
set_option maxHeartbeats 1600000 in
theorem packPages_any (x : Int) (a : Option Addr) (n c : Nat) (zs : List Int) (w : World) (hr : Ints w w.heap.size a n zs) (hn : n * 8 ≤ 140737488351232) (h1 : -9223372036854775808 ≤ x) (h2 : x ≤ 9223372036854775807) :
    Calls Try.prog 4 #[.int .i64 x, .slice a n c] w fun e w' => e = .returned (.bool true) ∧ Upd noBlock w w' := by
  obtain ⟨i0, hi0, hz0, hz1, hz2⟩ := intParts13
  have HR := Lib.hid hr
  have HN := Lib.hid hn
  have HL := Lib.hid hr.1
  have hnb : n ≤ 9223372036854775807 := by omega
  have HSP := Lib.hid (fun w => speaksQ w)
  have HNW := Lib.hid (fun w => packNew x w h1 h2)
  have HSZ := Lib.hid (fun w => refSize x w h1 h2)
  have HPG := Lib.hid (fun a c B w hr hB => pages_any x a n c B zs w hr hB (by omega) h1 h2)
  have hs12 := szQ_le x
  obtain ⟨s, hs⟩ : ∃ s, szQ x = s := ⟨_, rfl⟩
  rw [hs] at HNW HSZ HPG hs12
  have HS1 := Lib.hid hs12
  obtain ⟨hs1, hs2⟩ := hs12
  obtain ⟨V, hV⟩ : ∃ V : Nat, (if goodQ s zs = true then pall (pst s zs) else 0) = V := ⟨_, rfl⟩
  obtain ⟨G, hG⟩ : ∃ G : Bool, goodQ s zs = G := ⟨_, rfl⟩
  rw [hV, hG] at HPG
  have HV := Lib.hid hV
  have HGG := Lib.hid hG
  have HE : Hid (∀ W : World, (W.alloc (.cells #[] 3)).ownsRow W.heap.size 3 1 (.slice (some ⟨W.heap.size, 0, none⟩) 0 0) 0 []) := fun W =>
    ⟨rfl, .inr ⟨W.heap.size, 0, #[], rfl, Nat.le_refl _, heap_alloc_new W _, Nat.le_refl _, Nat.zero_le _, rfl, rfl⟩⟩
  clear hr hn hs hV hG
  go_enter Try.func4, Try.ntmps4
  go_wp2_with (first
    | (go_at_call 6; (with_reducible refine (HSP.out _).mono ?_); rintro e w1 ⟨rfl, u1⟩; have U1 := Lib.hid u1; clear u1; have HA1 := Lib.hid (HR.out.grow (U1.out.alloc (.cells #[] 3)) (Nat.le_refl _)); have HE1 := Lib.hid (HE.out w1))
    | (at_builtin; refine wpList_append_ints _ rfl (.tmp 20) (.tmp 21) 41 rfl w1.heap.size 3 i0 (.int .i64 0) Try.underlying41 hi0 hz0 hz1 hz2 rfl _ 0 [] rfl HE1.out w.heap.size a n c zs rfl HA1.out (by have := HN.out; unfold maxLen; omega) (by have := HN.out; omega) (by rw [World.size_alloc]; omega) ?_; intro v2 w2 hown2 hg2 _; (simp only [Nat.zero_add, List.nil_append] at hown2); obtain ⟨a2, c2, hv2, hi2, _, _⟩ := own_ints hown2; subst hv2; have HI2 := Lib.hid hi2; have U2 : Hid (Upd noBlock w w2) := upd_of_grown (U1.out.alloc (.cells #[] 3)) hg2 (fun k hk => .inr (by cases hk; exact U1.out.size)); clear hown2 hg2 hi2)
    | (go_at_call 14; (with_reducible refine (HPG.out a2 c2 _ _ HI2.out (Nat.le_refl _)).mono ?_); rintro e w3 ⟨rfl, u3⟩; have U3 := Lib.hid (U2.out.trans u3); clear u3)
    | (go_at_call 7; (with_reducible refine (HNW.out _).mono ?_); rintro e w4 ⟨g, rfl, hg, hb, hu⟩; have HG := Lib.hid hg; have HB := Lib.hid hb; have HU := Lib.hid hu; clear hg hb hu))
  have HL0 : Hid (PL w w4 w4.heap.size g s ⟨#[]⟩ 0) :=
    ⟨PK.start HB.out (Upd.refl _ _) hs1 hs2 (lt_of_block HB.out) (Nat.le_refl _), U3.out.trans HU.out, (U3.out.trans HU.out).size, Nat.le_trans U3.out.size HG.out⟩
  generalize w4.heap.size = B at *
  clear HB HG HU U1 U2 U3 HNW HSP HPG HA1 HE1 HI2 HE
  go_loopw [8, 9] (fun v i wr => ∃ (k p : Nat) (H : ByteArray), v = .bool true ∧ k ≤ n ∧ p ≤ k ∧ i = .int .i64 (k : Int) ∧ Hid (pst s (zs.take k) = (H.size, p)) ∧ Hid (goodQ s (zs.take k) = true) ∧ Hid (PL w wr B g s H p)) (fun _ i _ => n - (intOf i).toNat)
  case atStart => exact ⟨0, 0, ⟨#[]⟩, rfl, Nat.zero_le _, Nat.le_refl _, rfl, rfl, rfl, HL0⟩
  case round =>
    clear HL0
    obtain ⟨k, p, H, rfl, hk, hp, rfl, HP, HG, HK⟩ := hrel
    by_cases h0 : k < n
    · obtain ⟨b, off, hab, hb, hc⟩ := (HR.out.grow HK.out.up (Nat.le_refl _)).cell (by omega)
      subst hab
      have c1 := hc k h0
      have HC : Hid (∀ W : World, Upd noBlock w W → W.cell? ⟨b, off + k, none⟩ = some (.int .i64 (zs.getD k 0))) := fun W hu => by
        obtain ⟨b', off', e, hb', hc'⟩ := (HR.out.grow hu (Nat.le_refl _)).cell (by omega)
        simp only [Option.some.injEq, Addr.mk.injEq] at e
        obtain ⟨rfl, rfl, _⟩ := e
        exact hc' k h0
      have HT := Lib.hid (takeI zs k (by rw [HL.out]; exact h0))
      have k1 : (0 : Int) ≤ (k : Int) := by omega
      have k2 : (k : Int) < (n : Int) := by omega
      clear hc
      by_cases hx : 1 ≤ zs.getD k 0 ∧ zs.getD k 0 ≤ (s : Int)
      · have HX := Lib.hid hx
        obtain ⟨m, hm⟩ : ∃ m : Nat, zs.getD k 0 = (m : Int) := ⟨(zs.getD k 0).toNat, by omega⟩
        have HP1 := HP.out
        rw [hm] at c1 hx HC
        obtain ⟨hx1, hx2⟩ := hx
        have HG' : Hid (goodQ s (zs.take (k + 1)) = true) := by
          show _ = _
          rw [HT.out, goodQ_snoc, HG.out, decide_eq_true HX.out]; rfl
        have hmk : ∀ w : World, (Instr.makeSlice 44 (.int .i64 (m : Int)) (.int .i64 (m : Int))).run Try.prog w = .ok (.slice (some ⟨w.heap.size, 0, none⟩) m m) (w.alloc (.cells (madeCells #[.int .u8 0] m) 5)) :=
          run_make_row' (P := Try.prog) 44 5 (.int .u8 0) 1 Try.underlying44 byteInfoB rfl .i64 .i64 m (by omega) (by omega)
        obtain ⟨q, hq⟩ : ∃ q : ByteArray, (⟨(List.replicate m (0 : UInt8)).toArray⟩ : ByteArray) = q := ⟨_, rfl⟩
        have hqz : q.size = m := by rw [← hq]; show (List.replicate m (0 : UInt8)).toArray.size = m; simp
        obtain ⟨O, HO⟩ : ∃ O : Obj, Hid (O = .cells (madeCells #[.int .u8 0] m) 5) := ⟨_, rfl⟩
        rw [← HO.out] at hmk
        have hcv : ∀ W : World, (convert 44 9 (.slice (some ⟨W.heap.size, 0, none⟩) m m)).run Try.prog (W.alloc O) = .ok (.string q) (W.alloc O) := fun W => by
          have hrow := World.rowIs_made W (.int .u8 0) m 5
          rw [← HO.out] at hrow
          have h9 := run_convert_bytes_back (P := Try.prog) (W.alloc O) 44 9 5 ⟨W.heap.size, 0, none⟩ m (List.replicate m (0 : UInt8)) Try.underlying44 Try.underlying5 Try.underlying9 (fun j hj => by
            rw [List.length_replicate] at hj
            rw [add_zero_addr, hrow.cell hj, List.getElem_replicate]; rfl)
          rw [List.length_replicate, hq] at h9
          exact h9
        have hcw : ∀ j, (convert 44 9 (.slice (some ⟨wr.heap.size, 0, none⟩) m m)).run Try.prog ((wr.drewN j).alloc O) = .ok (.string q) ((wr.drewN j).alloc O) := fun j => hcv (wr.drewN j)
        obtain ⟨r, bb, H', dp, hA, hps⟩ := addQ_pst s p m H q hqz (by omega) (by omega)
        have HP' : Hid (pst s (zs.take (k + 1)) = (H'.size, p + dp)) := by
          show _ = _
          rw [HT.out, pst_snoc, HP.out, hm, ← hps]
        have hdp := addQ_one s H q
        rw [hA] at hdp
        have hp' : p + dp ≤ k + 1 := by simp only at hdp; omega
        have HAD : Hid (∀ W : World, Upd noBlock wr W → Calls Try.prog 11 #[.pointer (some ⟨g, 0, none⟩), .string q] W fun e w' => e = .returned (.tuple #[.string r, .bool bb, .int .i64 0]) ∧ PL w w' B g s H' (p + dp)) := fun W hu => by
          have h9 := add_any B g s p H q W (HK.out.pk.upd hu) (by unfold maxLen; omega) (by have := HN.out; omega)
          rw [hA] at h9
          exact h9.mono fun e w' hh => ⟨hh.1, (HK.out.upd hu).turn hh.2.1 hh.2.2⟩
        clear hq hqz hA hps hdp hm HX HP1
        generalize p + dp = p' at *
        go_wp2_with fail
        go_quiet ((go_at_call 8; exact quiet_eqQ (HSZ.out _)))
        have c5 := fun j => HC.out (wr.drewN j) (HK.out.up.drewN j)
        go_wp2_with (go_at_call 11; (with_reducible refine (HAD.out _ (by first | exact ((Upd.refl noBlock wr).drewN _).alloc _ | exact (Upd.refl noBlock wr).alloc _)).mono ?_); rintro e w5 ⟨rfl, hk5⟩; have HK5 := Lib.hid hk5; clear hk5)
        go_roundw
        case rel => exact ⟨k + 1, p', H', rfl, by omega, hp', by go_num, HP', HG', HK5⟩
        case measure => simp [intOf]; omega
      · have HX := Lib.hid (goodQ_bad s zs k (by rw [HL.out]; exact h0) hx)
        obtain rfl : V = 0 := by have := HV.out; rw [HX.out] at this; exact this.symm
        obtain rfl : G = false := by have := HGG.out; rw [HX.out] at this; exact this.symm
        clear HV HGG
        generalize zs.getD k 0 = z at *
        by_cases hz : z < 1
        · go_wp2_with fail
          go_quiet (fail)
          go_wp2_with fail
          go_ret
          exact ⟨rfl, HK.out.up.drewN _⟩
        · have hz2 : (s : Int) < z := by omega
          clear hx
          go_wp2_with fail
          go_quiet ((go_at_call 8; exact quiet_eqQ (HSZ.out _)))
          go_wp2_with fail
          go_ret
          exact ⟨rfl, HK.out.up.drewN _⟩
    · obtain rfl : k = n := by omega
      have e : zs.take k = zs := List.take_of_length_le (by rw [HL.out]; omega)
      rw [e] at HP HG
      obtain rfl : G = true := by have := HGG.out; rw [HG.out] at this; exact this.symm
      have hV : p + (if 0 < H.size then 1 else 0) = V := by have := HV.out; rw [HG.out, if_pos rfl, HP.out] at this; exact this
      have HF := Lib.hid (flush_any B g s p H wr HK.out.pk (by have := HN.out; omega))
      rw [hV] at HF
      clear hV HV HGG e
      go_wp2_with (first
        | (go_at_call 9; (with_reducible refine HF.out.mono ?_); rintro e w5 ⟨rfl, hp5, ht5⟩; have HK5 := Lib.hid (HK.out.turn hp5 ht5); clear hp5 ht5)
        | (go_at_call 13; (with_reducible refine (held_anyQ B g s V ⟨#[]⟩ _ HK5.out.pk).mono ?_); rintro e w6 ⟨rfl, hu6⟩; have HU6 := Lib.hid hu6; clear hu6))
      go_ret
      exact ⟨rfl, HK5.out.up.trans HU6.out⟩
theorem packPages_walk (x : Int) (a : Option Addr) (n c : Nat) (zs : List Int) (w : World) (wx : (Lit.int .i64 x).wf = true) (hr : IsRow .i64 w a n c zs) (hc : c * 8 ≤ 140737488351232) :
    Calls Try.prog 4 #[.int .i64 x, .slice a n c] w fun e w' => e = .returned (.bool true) ∧ Below w.heap.size w w' := by
  obtain ⟨h1, h2⟩ := (Lit.wf_int_iff .i64 x).1 wx
  have hnc : n ≤ c := by
    rcases hr with ⟨_, rfl, rfl, _⟩ | ⟨_, _, h, _⟩
    · exact Nat.le_refl _
    · exact h
  exact Calls.mono (packPages_any x a n c _ w hr.ints.1 (by omega) h1 h2) fun _ _ (h : _ ∧ Upd noBlock w _) => ⟨h.1, h.2.below (fun _ _ h => h)⟩
end Go.Proofs.Ytpbfealmhonbnaa
