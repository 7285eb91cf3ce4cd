/- actOf and geometryOf, number's contract given; slices of fields. -/
import Derived.Test.YthcjogigkagmdaaGreatDoorCoh
namespace Go.Proofs.YthcjogigkagmdaaGreatDoor
open Go.RowKit
set_option linter.unusedVariables false

/-- what is known of a slice of fields -/
structure FdR (w : World) (B : Nat) (a : Option Addr) (n : Nat) (F : List Con.Fd) : Prop where
  len : F.length = n
  cell : 0 < n → ∃ g off, a = some ⟨g, off, none⟩ ∧ g < B ∧ ∀ j, j < n → w.cell? ⟨g, off + j * 2, none⟩ = some (.string (F.getD j (⟨#[]⟩, false)).1) ∧ w.cell? ⟨g, off + j * 2 + 1, none⟩ = some (.bool (F.getD j (⟨#[]⟩, false)).2)
  fit : ∀ f ∈ F, f.1.size ≤ 140737488351232
theorem FdR.upd {w w' : World} {B n : Nat} {a : Option Addr} {F : List Con.Fd} (h : FdR w B a n F) {R : Nat → Prop} (hu : Upd R w w') (hB : B ≤ w.heap.size) (hR : ∀ k, k < B → ¬ R k) : FdR w' B a n F :=
  ⟨h.len, fun h0 => by
    obtain ⟨g, off, e, hg, hc⟩ := h.cell h0
    have hk := hu.block g (by omega) (hR g hg)
    exact ⟨g, off, e, hg, fun j hj => ⟨(World.cell?_of_block hk).trans (hc j hj).1, (World.cell?_of_block hk).trans (hc j hj).2⟩⟩, h.fit⟩
theorem FdR.grow {w w' : World} {B n : Nat} {a : Option Addr} {F : List Con.Fd} (h : FdR w B a n F) (hu : Upd noBlock w w') (hB : B ≤ w.heap.size) : FdR w' B a n F := h.upd hu hB (fun _ _ h => h)
theorem Gl.cmd {w : World} (h : Gl w) {k : Nat} (hk : k < 23) : w.cell? ⟨1, k * 2, none⟩ = some (.string ⟨(Con.wordK k).toArray⟩) ∧ w.cell? ⟨1, k * 2 + 1, none⟩ = some (.string ⟨(Con.letters k).toArray⟩) := by
  obtain ⟨t, z, hz⟩ := h.cmds
  exact ⟨(cell_of hz _).trans (cmd_at hk).1, (cell_of hz _).trans (cmd_at hk).2⟩
theorem letters_len (k : Nat) : (Con.letters k).length ≤ 3 := by
  have h : ∀ k : Fin 23, (Con.letters k.val).length ≤ 3 := by decide
  by_cases hk : k < 23
  · exact h ⟨k, hk⟩
  · have e : Con.cmds[k]? = none := List.getElem?_eq_none (by have e : Con.cmds.length = 23 := by decide
                                                              omega)
    unfold Con.letters
    rw [List.getD_eq_getElem?_getD, e]
    exact Nat.zero_le _
/-- what holds ahead of each round -/
structure AO (w wr : World) (k : Nat) (F : List Con.Fd) (j : Nat) (a : Con.A6) : Prop where
  act : wr.heap[w.heap.size + 1]? = some (.cells (actC a) 64 (0, 0))
  res : wr.heap[w.heap.size]? = some (.cells (actC Con.zA) 64 (0, 0))
  run : Con.actF k F = Con.putsA a ((Con.letters k).drop j) (F.drop j)
  up : Upd noBlock w wr
theorem six_cells {w : World} {b : Nat} {a : Con.A6} (h : w.heap[b]? = some (.cells (actC a) 64 (0, 0))) :
    (w.cell? ⟨b, 0, none⟩ = some (.int .i64 a.kind) ∧ w.cell? ⟨b, 1, none⟩ = some (.string a.path) ∧ w.cell? ⟨b, 2, none⟩ = some (.string a.dest) ∧ w.cell? ⟨b, 3, none⟩ = some (.string a.data) ∧ w.cell? ⟨b, 4, none⟩ = some (.int .i64 a.off) ∧ w.cell? ⟨b, 5, none⟩ = some (.int .i64 a.size)) ∧
    (w.frozen? ⟨b, 0, none⟩ = false ∧ w.frozen? ⟨b, 1, none⟩ = false ∧ w.frozen? ⟨b, 2, none⟩ = false ∧ w.frozen? ⟨b, 3, none⟩ = false ∧ w.frozen? ⟨b, 4, none⟩ = false ∧ w.frozen? ⟨b, 5, none⟩ = false) :=
  ⟨⟨cell_of h 0, cell_of h 1, cell_of h 2, cell_of h 3, cell_of h 4, cell_of h 5⟩, free_of h 0, free_of h 1, free_of h 2, free_of h 3, free_of h 4, free_of h 5⟩
theorem res_ct {P : Program} {fn : Func} {p u : Tmp} {ty : TypeId} (h : fn.results = #[.cell p ty, .tmp u]) (tmps : Array Value) (w : World) (g : Nat) (t : TypeId) (cs : Array Value) (fr : Nat × Nat) (d : TypeDesc) (b : Value)
    (hp : tmps.getD p undef = .pointer (some ⟨g, 0, none⟩)) (hg : w.heap[g]? = some (.cells cs t fr))
    (hu : P.underlying ty = some d) (hd : (match d with | .struct _ | .array _ _ => true | _ => false) = true) (hi : (P.info? ty).map (·.size) = some cs.size) (hb : tmps.getD u undef = b) :
    (results fn tmps).run P w = .ok (.tuple #[.agg cs, b]) w := by
  have hp' : tmps[p]?.getD undef = .pointer (some ⟨g, 0, none⟩) := by simpa using hp
  have hb' : tmps[u]?.getD undef = b := by simpa using hb
  simp [results, h, hp', hb', asAddr, Result.andThen, run_loadVar_row w g t ty cs fr d hg hu hd hi]
theorem actInfo : (Tryz.prog.info? 64).map (·.size) = some 6 := by kernel_rfl
/-- an act stored over another -/
theorem six_set {w : World} {b : Nat} {a0 : Con.A6} (h : w.heap[b]? = some (.cells (actC a0) 64 (0, 0))) (a : Con.A6) :
    ((((((w.setCell ⟨b, 0, none⟩ (.int .i64 a.kind)).setCell ⟨b, 1, none⟩ (.string a.path)).setCell ⟨b, 2, none⟩ (.string a.dest)).setCell ⟨b, 3, none⟩ (.string a.data)).setCell ⟨b, 4, none⟩ (.int .i64 a.off)).setCell ⟨b, 5, none⟩ (.int .i64 a.size)).heap[b]? = some (.cells (actC a) 64 (0, 0)) ∧
    Upd (oneBlock b) w ((((((w.setCell ⟨b, 0, none⟩ (.int .i64 a.kind)).setCell ⟨b, 1, none⟩ (.string a.path)).setCell ⟨b, 2, none⟩ (.string a.dest)).setCell ⟨b, 3, none⟩ (.string a.data)).setCell ⟨b, 4, none⟩ (.int .i64 a.off)).setCell ⟨b, 5, none⟩ (.int .i64 a.size)) := by
  refine ⟨?_, ?_⟩
  · exact block_set (block_set (block_set (block_set (block_set (block_set h _) _) _) _) _) _
  · exact ((((((Upd.refl (oneBlock b) w).setCell (p := ⟨b, 0, none⟩) (.inl rfl) _).setCell (p := ⟨b, 1, none⟩) (.inl rfl) _).setCell (p := ⟨b, 2, none⟩) (.inl rfl) _).setCell (p := ⟨b, 3, none⟩) (.inl rfl) _).setCell (p := ⟨b, 4, none⟩) (.inl rfl) _).setCell (p := ⟨b, 5, none⟩) (.inl rfl) _
/-- what actOf answers -/
def ActP (k : Nat) (F : List Con.Fd) (w : World) (e : Ending) (w' : World) : Prop :=
  ((∃ a, Con.actF k F = some a ∧ e = .returned (.tuple #[.agg (actC a), .bool true])) ∨ (Con.actF k F = none ∧ e = .returned (.tuple #[.agg (actC Con.zA), .bool false]))) ∧ Upd noBlock w w'
theorem puts_step {a : Con.A6} {l : List UInt8} {F : List Con.Fd} {k : Nat} {c : UInt8} {f : Con.Fd} (hl : l[k]? = some c) (hf : F[k]? = some f) : Con.putsA a (l.drop k) (F.drop k) = match Con.putA a c f with
    | some b => Con.putsA b (l.drop (k + 1)) (F.drop (k + 1))
    | none => none := by
  obtain ⟨h1, e1⟩ := List.getElem?_eq_some_iff.1 hl
  obtain ⟨h2, e2⟩ := List.getElem?_eq_some_iff.1 hf
  rw [List.drop_eq_getElem_cons h1, List.drop_eq_getElem_cons h2, e1, e2, Con.putsA]
  cases Con.putA a c f <;> rfl
set_option maxRecDepth 100000 in
set_option maxHeartbeats 1600000 in
theorem actOf_any (HN0 : NumC) (k : Nat) (hk : k < 23) (a : Option Addr) (n c B : Nat) (F : List Con.Fd) (w : World) (hg : Gl w) (hF : FdR w B a n F) (hB : B ≤ w.heap.size) (hn : n ≤ 140737488351232) :
    Calls Tryz.prog 68 #[.int .i64 (k : Int), .slice a n c] w (ActP k F w) := by
  obtain ⟨c1, c2⟩ := hg.cmd hk
  have hlen := hF.len
  obtain ⟨L, hL⟩ : ∃ L : ByteArray, ⟨(Con.letters k).toArray⟩ = L := ⟨_, rfl⟩
  have hLd : L.data.toList = Con.letters k := by rw [← hL]
  have hLz : L.size = (Con.letters k).length := by rw [← hLd]; rfl
  have hL3 := letters_len k
  rw [hL] at c2
  have hk1 : (k : Int) < 23 := by omega
  have h10 := hg.all
  have c3 : ∀ o1 o2 : Obj, ((w.alloc o1).alloc o2).cell? ⟨1, k * 2 + 1, none⟩ = some (.string L) := fun o1 o2 => upd_cell (((Upd.refl noBlock w).alloc o1).alloc o2) c2
  have HLD := Lib.hid hLd
  have HLZ := Lib.hid hLz
  have hLs : L.size ≤ 3 := by omega
  have HF0 := Lib.hid hF
  have HLEN := Lib.hid hlen
  have HG := Lib.hid hg
  have HBB := Lib.hid hB
  clear hL hLd hLz hL3 c1 c2 hF hlen hg hB
  by_cases hne : n = L.size
  · subst hne
    have e1 : ((L.size : Int) != (L.size : Int)) = false := by simp
    have HA : Hid (Con.actF k F = Con.putsA { Con.zA with kind := (k : Int) } ((Con.letters k).drop 0) (F.drop 0)) := by
      show _ = _
      unfold Con.actF
      rw [if_pos (by rw [HLEN.out, ← HLZ.out])]; rfl
    have HS0 : Hid (AO w ((w.alloc (.cells (actC Con.zA) 64)).alloc (.cells (actC { Con.zA with kind := (k : Int) }) 64)) k F 0 { Con.zA with kind := (k : Int) }) :=
      ⟨by have h := heap_alloc_new (w.alloc (.cells (actC Con.zA) 64)) (.cells (actC { Con.zA with kind := (k : Int) }) 64); rw [World.size_alloc] at h; exact h, block_alloc (heap_alloc_new w _) _, HA.out, ((Upd.refl _ _).alloc _).alloc _⟩
    clear HA
    go_enter Tryz.func68, Tryz.ntmps68
    go_wp2
    go_loopw [24] (fun i wr => ∃ (j : Nat) (a' : Con.A6), j ≤ L.size ∧ i = .int .i64 (j : Int) ∧ Hid (AO w wr k F j a')) (fun i _ => L.size - (intOf i).toNat)
    case atStart => exact ⟨0, _, Nat.zero_le _, rfl, HS0⟩
    case round =>
      clear HS0 c3
      obtain ⟨j, a', hj, rfl, HJ⟩ := hrel
      have hJ := HJ.out
      by_cases hlt : j < L.size
      · obtain ⟨g, off, ha, hgB, hcl⟩ := HF0.out.cell (by omega)
        subst ha
        have HFR := Lib.hid (HF0.out.grow hJ.up HBB.out)
        obtain ⟨g2, off2, ha2, _, hcl2⟩ := HFR.out.cell (by omega)
        cases ha2
        obtain ⟨d1, d2⟩ := hcl2 j hlt
        obtain ⟨f, hf⟩ : ∃ f, F.getD j (⟨#[]⟩, false) = f := ⟨_, rfl⟩
        rw [hf] at d1 d2
        obtain ⟨f1, f2⟩ := f
        have hFj : F[j]? = some (f1, f2) := by
          rw [← hf, List.getD_eq_getElem?_getD, List.getElem?_eq_getElem (by rw [HLEN.out]; exact hlt)]; rfl
        have hcj : (Con.letters k)[j]? = some (L[j]'hlt) := by
          rw [← HLD.out, Array.getElem?_toList]; exact Array.getElem?_eq_getElem hlt
        have hstep := puts_step (a := a') hcj hFj
        have hfit : f1.size ≤ 140737488351232 := HF0.out.fit _ (List.mem_of_getElem? hFj)
        obtain ⟨ch, hch⟩ : ∃ ch, L[j]'hlt = ch := ⟨_, rfl⟩
        rw [hch] at hstep
        have HST : Hid (Con.actF k F = match Con.putA a' ch (f1, f2) with | some b => Con.putsA b ((Con.letters k).drop (j + 1)) (F.drop (j + 1)) | none => none) := hJ.run.trans hstep
        have HU := Lib.hid hJ.up
        have HR : Hid (∀ W, Upd noBlock wr W → W.heap[w.heap.size]? = some (.cells (actC Con.zA) 64 (0, 0))) := fun W h => h.cells hJ.res (fun h => h)
        have HPT : Hid (∀ W, Upd noBlock wr W → Calls Tryz.prog 86 #[.pointer (some ⟨w.heap.size + 1, 0, none⟩), .int .u8 (ch.toNat : Int), .agg #[.string f1, .bool f2]] W (PutP (w.heap.size + 1) a' ch (f1, f2) W)) := fun W h =>
          put_any HN0 _ a' ch (f1, f2) W (HG.out.grow (HU.out.trans h)) (h.cells hJ.act (fun h => h)) hfit
        have HRES : Hid (∀ W W', Upd noBlock wr W → Upd (oneBlock (w.heap.size + 1)) W W' → W'.heap[w.heap.size]? = some (.cells (actC Con.zA) 64 (0, 0)) ∧ Upd noBlock w W') := fun W W' h h' =>
          ⟨h'.cells (HR.out W h) (by unfold oneBlock; omega), (HU.out.trans h).step h' (fun i hi e => absurd e (by unfold oneBlock; omega))⟩
        clear hJ HJ hcl hcl2 hFj hcj hstep hf hgB hfit
        cases hp : Con.putA a' ch (f1, f2) with
        | none =>
          rw [hp] at HST
          have HP2 : Hid (∀ W, Upd noBlock wr W → Calls Tryz.prog 86 #[.pointer (some ⟨w.heap.size + 1, 0, none⟩), .int .u8 (ch.toNat : Int), .agg #[.string f1, .bool f2]] W fun e w2 => e = .returned (.bool false) ∧ Upd (oneBlock (w.heap.size + 1)) W w2) := fun W h => by
            refine (HPT.out W h).mono fun e w2 h2 => ?_
            rcases h2 with ⟨⟨b, h3, _⟩ | ⟨_, h3⟩, h4⟩
            · rw [hp] at h3; cases h3
            · exact ⟨h3, h4⟩
          have UW : Hid (Upd noBlock wr (wr.alloc (.cells #[.string f1, .bool f2] 148)).drew) := ((Upd.refl noBlock wr).alloc _).drew
          clear hp HPT
          go_wp2_with fail
          go_region_with (go_at_call 86; (with_reducible refine (HP2.out _ UW.out).mono ?_); rintro e w2 ⟨rfl, h2⟩; have h3 := HRES.out _ _ UW.out h2; have U2 := Lib.hid h3.2; have R2 := Lib.hid h3.1; clear h2 h3)
          all_goals
            obtain ⟨⟨r0, r1, r2, r3, r4, r5⟩, q0, q1, q2, q3, q4, q5⟩ := six_cells R2.out
            obtain ⟨x1, x2⟩ := six_set R2.out Con.zA
            have HX : Hid (_ ∧ _) := ⟨x1, U2.out.step x2 (fun i hi e => absurd e (by unfold oneBlock; omega))⟩
            clear x1 x2
            unfold Con.zA at HX r0 r1 r2 r3 r4 r5
            go_wp2
            generalize hW : ((((((w2.setCell ⟨w.heap.size, 0, none⟩ (.int .i64 0)).setCell ⟨w.heap.size, 1, none⟩ (.string ⟨#[]⟩)).setCell ⟨w.heap.size, 2, none⟩ (.string ⟨#[]⟩)).setCell ⟨w.heap.size, 3, none⟩ (.string ⟨#[]⟩)).setCell ⟨w.heap.size, 4, none⟩ (.int .i64 0)).setCell ⟨w.heap.size, 5, none⟩ (.int .i64 0)) = W6 at *
            exact bodyPost_ret_by (res_ct rfl _ _ w.heap.size _ _ _ _ _ rfl HX.out.1 Tryz.underlying64 rfl actInfo rfl) rfl ⟨.inr ⟨HST.out, rfl⟩, HX.out.2⟩
        | some b =>
          rw [hp] at HST
          have HP2 : Hid (∀ W, Upd noBlock wr W → Calls Tryz.prog 86 #[.pointer (some ⟨w.heap.size + 1, 0, none⟩), .int .u8 (ch.toNat : Int), .agg #[.string f1, .bool f2]] W fun e w2 => e = .returned (.bool true) ∧ w2.heap[w.heap.size + 1]? = some (.cells (actC b) 64 (0, 0)) ∧ Upd (oneBlock (w.heap.size + 1)) W w2) := fun W h => by
            refine (HPT.out W h).mono fun e w2 h2 => ?_
            rcases h2 with ⟨⟨b', h3, h5, h6⟩ | ⟨h3, _⟩, h4⟩
            · rw [hp] at h3; cases h3; exact ⟨h5, h6, h4⟩
            · rw [hp] at h3; cases h3
          have UW : Hid (Upd noBlock wr (wr.alloc (.cells #[.string f1, .bool f2] 148)).drew) := ((Upd.refl noBlock wr).alloc _).drew
          clear hp HPT
          go_wp2_with fail
          go_region_with (go_at_call 86; (with_reducible refine (HP2.out _ UW.out).mono ?_); rintro e w2 ⟨rfl, h5, h2⟩; have h3 := HRES.out _ _ UW.out h2; have HN : Hid (AO w w2 k F (j + 1) b) := ⟨h5, h3.1, HST.out, h3.2⟩; clear h2 h3 h5)
          all_goals
            go_wp2
            go_roundw
            case rel => exact ⟨j + 1, b, by omega, by go_num, HN⟩
            case measure => simp [intOf] <;> omega
      · obtain rfl : j = L.size := by omega
        have HD : Hid (Con.actF k F = some a') := by
          show _ = _
          rw [hJ.run, HLZ.out, List.drop_length]; rfl
        obtain ⟨⟨k0, k1, k2, k3, k4, k5⟩, _⟩ := six_cells hJ.act
        obtain ⟨⟨r0, r1, r2, r3, r4, r5⟩, q0, q1, q2, q3, q4, q5⟩ := six_cells hJ.res
        have HU := Lib.hid hJ.up
        obtain ⟨x1, x2⟩ := six_set hJ.res a'
        have HX : Hid (_ ∧ _) := ⟨x1, HU.out.step x2 (fun i hi e => absurd e (by unfold oneBlock; omega))⟩
        clear hJ HJ x1 x2 hlt
        go_wp2
        generalize hW : ((((((wr.setCell ⟨w.heap.size, 0, none⟩ (.int .i64 a'.kind)).setCell ⟨w.heap.size, 1, none⟩ (.string a'.path)).setCell ⟨w.heap.size, 2, none⟩ (.string a'.dest)).setCell ⟨w.heap.size, 3, none⟩ (.string a'.data)).setCell ⟨w.heap.size, 4, none⟩ (.int .i64 a'.off)).setCell ⟨w.heap.size, 5, none⟩ (.int .i64 a'.size)) = W6 at *
        clear r0 r1 r2 r3 r4 r5 q0 q1 q2 q3 q4 q5
        obtain ⟨⟨r0, r1, r2, r3, r4, r5⟩, _⟩ := six_cells HX.out.1
        exact bodyPost_ret_by (res_ct rfl _ _ w.heap.size _ _ _ _ _ rfl HX.out.1 Tryz.underlying64 rfl actInfo rfl) rfl ⟨.inl ⟨a', HD.out, rfl⟩, HX.out.2⟩
  · have e1 : ((n : Int) != (L.size : Int)) = true := by rw [bne_iff_ne]; omega
    have HA : Hid (Con.actF k F = none) := by
      show _ = _
      unfold Con.actF
      rw [if_neg]
      rw [HLEN.out, ← HLZ.out]; exact hne
    have HU : Hid (∀ o1 o2 : Obj, Upd noBlock w ((w.alloc o1).alloc o2)) := fun o1 o2 => ((Upd.refl _ _).alloc _).alloc _
    clear hne
    go_enter Tryz.func68, Tryz.ntmps68
    go_wp2
    go_returns
    exact ⟨.inr ⟨HA.out, rfl⟩, HU.out _ _⟩
end Go.Proofs.YthcjogigkagmdaaGreatDoor
