/- first: a line's first field. -/
import Derived.Test.YthcjogigkagmdaaGreatDoorCoo
import Derived.Lib.Strings
namespace Go.Proofs.YthcjogigkagmdaaGreatDoor
open Go.RowKit
set_option linter.unusedVariables false

def okRest (r : List UInt8) : Bool := r.isEmpty || r.head? == some 32
/-- what first answers -/
def FirstP (l : List UInt8) (w : World) (e : Ending) (w' : World) : Prop :=
  (∃ (f : Con.Fd) (r : ByteArray) (ok : Bool), e = .returned (.tuple #[.agg #[.string f.1, .bool f.2], .string r, .bool ok]) ∧ f.1.size ≤ l.length ∧ r.size < l.length ∧ ∀ out, Con.lexA out .bet l = if (ok && okRest r.data.toList) = true then Con.lexA (out ++ [f]) .bet r.data.toList else none) ∧ Upd noBlock w w'
theorem lex_aft (out : List Con.Fd) (v r : List UInt8) : Con.lexA out (.aft v) r = if okRest r = true then Con.lexA (out ++ [Con.fd v true]) .bet r else none := by
  cases r with
  | nil => rfl
  | cons c r =>
    by_cases h : c = 32
    · subst h
      rw [Con.lexA, Con.lexA, if_pos rfl, if_pos rfl]; rfl
    · have : okRest (c :: r) = false := by simp [okRest, h]
      simp [Con.lexA, h, this]
theorem take_drop_len (l : List UInt8) : (l.takeWhile (fun c => !Con.endB c)).length + (l.dropWhile (fun c => !Con.endB c)).length = l.length := by
  have := congrArg List.length (List.takeWhile_append_dropWhile (p := fun c => !Con.endB c) (l := l))
  rwa [List.length_append] at this
theorem lex_first (out : List Con.Fd) (l : List UInt8) (c : UInt8) (hc : l.head? = some c) (h1 : c ≠ 32) (h2 : c ≠ 34) :
    Con.lexA out .bet l = if (true && okRest (l.dropWhile (fun c => !Con.endB c))) = true then Con.lexA (out ++ [Con.fd (l.takeWhile (fun c => !Con.endB c)) false]) .bet (l.dropWhile (fun c => !Con.endB c)) else none := by
  have hl : l[0]? = some c := by rw [← hc]; cases l <;> rfl
  have h0 := Con.lx_word (out := out) (l := l) (i := 0) hl h1 h2
  rw [List.drop_zero] at h0
  rw [h0, Con.lex_word out l []]
  have htd := List.takeWhile_append_dropWhile (p := fun c => !Con.endB c) (l := l)
  cases hd : l.dropWhile (fun c => !Con.endB c) with
  | nil =>
    rw [hd, List.append_nil] at htd
    rw [htd]; rfl
  | cons d r =>
    by_cases h : d = 32
    · subst h
      show (if (32 : UInt8) = 32 then Con.lexA (out ++ [Con.fd ([] ++ l.takeWhile (fun c => !Con.endB c)) false]) .bet r else none) = _
      rw [if_pos rfl, List.nil_append]
      show _ = if true = true then Con.lexA _ .bet (32 :: r) else none
      rw [if_pos rfl, Con.lexA, if_pos rfl]
    · show (if d = 32 then _ else none) = _
      rw [if_neg h]
      have : okRest (d :: r) = false := by simp [okRest, h]
      rw [this, if_neg (by decide)]
theorem any_idx (l : List UInt8) : Lib.indexAny l [32, 34] = if l.dropWhile (fun c => !Con.endB c) = [] then -1 else ((l.takeWhile (fun c => !Con.endB c)).length : Int) := by
  induction l with
  | nil => rfl
  | cons c l ih =>
    by_cases he : Con.endB c = true
    · have h1 : ([32, 34] : List UInt8).contains c = true := by
        unfold Con.endB at he
        simp at he ⊢; exact he
      rw [Lib.indexAny, if_pos h1, List.dropWhile_cons_of_neg (by simp [he]), List.takeWhile_cons_of_neg (by simp [he]), if_neg (by simp)]; rfl
    · have h1 : ¬ ([32, 34] : List UInt8).contains c = true := by
        unfold Con.endB at he
        simp at he ⊢; exact he
      have hp : (fun c => !Con.endB c) c = true := by simp [he]
      rw [Lib.indexAny, if_neg h1, List.dropWhile_cons_of_pos (p := fun c => !Con.endB c) hp, List.takeWhile_cons_of_pos (p := fun c => !Con.endB c) hp, ih]
      by_cases hd : l.dropWhile (fun c => !Con.endB c) = []
      · rw [if_pos hd, if_pos hd]; rfl
      · rw [if_neg hd, if_neg hd, if_neg]
        · simp
        · simp
theorem res_ctt {P : Program} {fn : Func} {p u v : Tmp} {ty : TypeId} (h : fn.results = #[.cell p ty, .tmp u, .tmp v]) (tmps : Array Value) (w : World) (g : Nat) (t : TypeId) (cs : Array Value) (fr : Nat × Nat) (d : TypeDesc) (b c : Value)
    (hp : tmps.getD p undef = .pointer (some ⟨g, 0, none⟩)) (hg : w.heap[g]? = some (.cells cs t fr))
    (hu : P.underlying ty = some d) (hd : (match d with | .struct _ | .array _ _ => true | _ => false) = true) (hi : (P.info? ty).map (·.size) = some cs.size) (hb : tmps.getD u undef = b) (hc : tmps.getD v undef = c) :
    (results fn tmps).run P w = .ok (.tuple #[.agg cs, b, c]) w := by
  have hp' : tmps[p]?.getD undef = .pointer (some ⟨g, 0, none⟩) := by simpa using hp
  have hb' : tmps[u]?.getD undef = b := by simpa using hb
  have hc' : tmps[v]?.getD undef = c := by simpa using hc
  simp [results, h, hp', hb', hc', asAddr, Result.andThen, run_loadVar_row w g t ty cs fr d hg hu hd hi]
theorem fldInfo : (Tryz.prog.info? 148).map (·.size) = some 2 := by kernel_rfl
theorem clone_any (x : ByteArray) (w : World) (hx : x.size ≤ 1048576) : Calls Tryz.prog 84 #[.string x] w fun e w' => e = .returned (.string x) ∧ Upd noBlock w w' := by
  have HC := Lib.hid (Tryz.stringslite_Clone x w (by omega))
  go_enter Tryz.func84, Tryz.ntmps84
  go_wp2_with (go_at_call 101; (with_reducible refine HC.out.mono ?_); rintro e w1 ⟨rfl, h⟩; have H := Lib.hid h; clear h)
  go_ret
  exact ⟨rfl, Upd.of_below H.out _⟩
set_option maxRecDepth 100000 in
set_option maxHeartbeats 1600000 in
theorem first_any (s : ByteArray) (c : UInt8) (w : World) (hs : s.size ≤ 1048576) (hc : s.data.toList.head? = some c) (h32 : c ≠ 32) :
    Calls Tryz.prog 66 #[.string s] w (FirstP s.data.toList w) := by
  have hl : s.data.toList.length = s.size := rfl
  have h0 : 0 < s.size := by
    rcases Nat.eq_zero_or_pos s.size with h | h
    · rw [List.eq_nil_of_length_eq_zero (by omega : s.data.toList.length = 0)] at hc; cases hc
    · exact h
  have hx0 : s[0]'h0 = c := by
    have h9 := get_data s 0 h0
    have h8 : s.data.toList[0]? = some c := by rw [← hc]; cases s.data.toList <;> rfl
    rw [h9] at h8; exact Option.some.inj h8
  by_cases h34 : c = 34
  · have e34 : ((c.toNat : Int) == 34) = true := by rw [h34]; rfl
    obtain ⟨q, hq⟩ : ∃ q, s.extract 1 s.size = q := ⟨_, rfl⟩
    have hqd : q.data.toList = s.data.toList.drop 1 := by rw [← hq, Lib.extract_to_end]
    have hqz : q.size + 1 = s.size := by rw [← hq, ByteArray.size_extract]; omega
    have HUQ := Lib.hid (unquote_any escaped_any q (w.alloc (.cells #[.string ⟨#[]⟩, .bool false] 148)) (by omega))
    have HLX : Hid (∀ out, Con.lexA out .bet s.data.toList = match Con.unqA [] .n q.data.toList with | some (v, r) => if okRest r = true then Con.lexA (out ++ [Con.fd v true]) .bet r else none | none => none) := fun out => by
      have e : s.data.toList = 34 :: q.data.toList := by
        rw [hqd]
        cases h : s.data.toList with
        | nil => rw [h] at hc; cases hc
        | cons d r => rw [h] at hc; simp at hc; rw [hc, h34]; rfl
      rw [e, Con.lexA, if_neg (by decide), if_pos rfl, Con.lex_quo]
      cases Con.unqA [] .n q.data.toList with
      | none => rfl
      | some p => obtain ⟨v, r⟩ := p; exact lex_aft out v r
    have HZ : Hid (q.data.toList.length + 1 = s.data.toList.length) := by show _ = _; have : q.data.toList.length = q.size := rfl; omega
    have hz1 : (1 : Int) ≤ (s.size : Int) := by omega
    have HR : Hid (∀ W, Upd noBlock (w.alloc (.cells #[.string ⟨#[]⟩, .bool false] 148)) W → ∀ v b, ((W.setCell ⟨w.heap.size, 0, none⟩ v).setCell ⟨w.heap.size, 1, none⟩ b).heap[w.heap.size]? = some (.cells #[v, b] 148 (0, 0)) ∧ Upd noBlock w ((W.setCell ⟨w.heap.size, 0, none⟩ v).setCell ⟨w.heap.size, 1, none⟩ b)) := fun W h v b =>
      ⟨block_set (block_set (h.cells (heap_alloc_new w _) (fun h => h)) v) b, ((((Upd.refl noBlock w).alloc _).trans h).setCell (p := ⟨w.heap.size, 0, none⟩) (.inr (Nat.le_refl _)) v).setCell (p := ⟨w.heap.size, 1, none⟩) (.inr (Nat.le_refl _)) b⟩
    have HCE : Hid (∀ W, Upd noBlock (w.alloc (.cells #[.string ⟨#[]⟩, .bool false] 148)) W → W.heap[w.heap.size]? = some (.cells #[.string ⟨#[]⟩, .bool false] 148 (0, 0))) := fun W h => h.cells (heap_alloc_new w _) (fun h => h)
    generalize s.data.toList = l at *
    clear hqd hqz hc h34 h32 hl
    cases hU : Con.unqA [] .n q.data.toList with
    | none =>
      rw [hU] at HLX
      have HUQ2 : Hid (Calls Tryz.prog 82 #[.string q] (w.alloc (.cells #[.string ⟨#[]⟩, .bool false] 148)) fun e w' => e = .returned (.tuple #[.string ⟨#[]⟩, .string ⟨#[]⟩, .bool false]) ∧ Upd noBlock (w.alloc (.cells #[.string ⟨#[]⟩, .bool false] 148)) w') := HUQ.out.mono fun e w' ⟨h, hu⟩ => by
        rcases h with ⟨v, r, h1, _⟩ | ⟨_, h2⟩
        · rw [hU] at h1; cases h1
        · exact ⟨h2, hu⟩
      clear hU HUQ
      go_enter Tryz.func66, Tryz.ntmps66
      go_wp2_with (go_at_call 82; (with_reducible refine HUQ2.out.mono ?_); rintro e w1 ⟨rfl, hu⟩; have HR1 := Lib.hid (HR.out _ hu (.string ⟨#[]⟩) (.bool true)); have c0 := cell_of (HCE.out _ hu) 0; have c1 := cell_of (HCE.out _ hu) 1; have f0 := free_of (HCE.out _ hu) 0; have f1 := free_of (HCE.out _ hu) 1; clear hu)
      refine bodyPost_ret_by (res_ctt rfl _ _ w.heap.size _ _ _ _ _ _ rfl HR1.out.1 Tryz.underlying148 rfl fldInfo rfl rfl) rfl ⟨⟨(⟨#[]⟩, true), ⟨#[]⟩, false, rfl, Nat.zero_le _, ?_, fun out => ?_⟩, HR1.out.2⟩
      · have := HZ.out; show 0 < _; omega
      · rw [HLX.out]; rfl
    | some p =>
      obtain ⟨v, r⟩ := p
      rw [hU] at HLX
      obtain ⟨V, hV⟩ : ∃ V : ByteArray, ⟨v.toArray⟩ = V := ⟨_, rfl⟩
      obtain ⟨R, hR⟩ : ∃ R : ByteArray, ⟨r.toArray⟩ = R := ⟨_, rfl⟩
      have hVd : V.data.toList = v := by rw [← hV]
      have hRd : R.data.toList = r := by rw [← hR]
      have HUQ2 : Hid (Calls Tryz.prog 82 #[.string q] (w.alloc (.cells #[.string ⟨#[]⟩, .bool false] 148)) fun e w' => e = .returned (.tuple #[.string V, .string R, .bool true]) ∧ (V.size ≤ q.data.toList.length ∧ R.size ≤ q.data.toList.length) ∧ Upd noBlock (w.alloc (.cells #[.string ⟨#[]⟩, .bool false] 148)) w') := HUQ.out.mono fun e w' ⟨h, hu⟩ => by
        rcases h with ⟨v', r', h1, h2, h3, h4⟩ | ⟨h1, _⟩
        · rw [hU] at h1
          cases h1
          have e1 : V = v' := by rw [← hV]
          have e2 : R = r' := by rw [← hR]
          rw [e1, e2]
          exact ⟨h4, ⟨h2, h3⟩, hu⟩
        · rw [hU] at h1; cases h1
      rw [← hVd, ← hRd] at HLX
      have hfd : Con.fd V.data.toList true = (V, true) := rfl
      clear hU HUQ hV hR hVd hRd
      go_enter Tryz.func66, Tryz.ntmps66
      go_wp2_with (go_at_call 82; (with_reducible refine HUQ2.out.mono ?_); rintro e w1 ⟨rfl, hz, hu⟩; have HZZ := Lib.hid hz; clear hz; have HR1 := Lib.hid (HR.out _ hu (.string V) (.bool true)); have c0 := cell_of (HCE.out _ hu) 0; have c1 := cell_of (HCE.out _ hu) 1; have f0 := free_of (HCE.out _ hu) 0; have f1 := free_of (HCE.out _ hu) 1; clear hu)
      refine bodyPost_ret_by (res_ctt rfl _ _ w.heap.size _ _ _ _ _ _ rfl HR1.out.1 Tryz.underlying148 rfl fldInfo rfl rfl) rfl ⟨⟨(V, true), R, true, rfl, ?_, ?_, fun out => ?_⟩, HR1.out.2⟩
      · have := HZ.out; have := HZZ.out; show V.size ≤ _; omega
      · have := HZ.out; have := HZZ.out; omega
      · rw [HLX.out]; rfl
  · have e34 : ((c.toNat : Int) == 34) = false := by have := u8n h34; rw [beq_eq_false_iff_ne]; exact this
    have hidx := any_idx s.data.toList
    have HLX := Lib.hid (fun out => lex_first out s.data.toList c hc h32 h34)
    have htd := take_drop_len s.data.toList
    obtain ⟨T, hT⟩ : ∃ T, s.data.toList.takeWhile (fun c => !Con.endB c) = T := ⟨_, rfl⟩
    obtain ⟨D, hD⟩ : ∃ D, s.data.toList.dropWhile (fun c => !Con.endB c) = D := ⟨_, rfl⟩
    have happ : T ++ D = s.data.toList := by rw [← hT, ← hD]; exact List.takeWhile_append_dropWhile
    have hTpos : 0 < T.length := by
      rw [← hT]
      cases h : s.data.toList with
      | nil => rw [h] at hc; cases hc
      | cons d r =>
        rw [h] at hc
        have : d = c := by simpa using hc
        subst this
        rw [List.takeWhile_cons_of_pos (p := fun c => !Con.endB c) (by simp [Con.endB, h32, h34])]
        simp
    rw [hT, hD] at HLX htd
    rw [hT, hD] at hidx
    have HIA := Lib.hid (fun W => indexAny_any s hs W)
    obtain ⟨m, hm⟩ : ∃ m, T.length = m := ⟨_, rfl⟩
    have hms : m ≤ s.size := by omega
    obtain ⟨X, hX⟩ : ∃ X, s.extract 0 m = X := ⟨_, rfl⟩
    obtain ⟨Y, hY⟩ : ∃ Y, s.extract m s.size = Y := ⟨_, rfl⟩
    have hYd : Y.data.toList = D := by
      rw [← hY, Lib.extract_to_end, ← happ, ← hm, List.drop_left]
    have hXd : X.data.toList = T := by
      rw [← hX]
      have : (s.extract 0 m).data.toList = (s.data.toList.drop 0).take (m - 0) := Lib.extract_data s 0 m
      rw [this, ← happ, ← hm]; simp
    have hXz : X.size = m := by rw [← hX, ByteArray.size_extract]; omega
    have hYz : Y.size + m = s.size := by rw [← hY, ByteArray.size_extract]; omega
    have HFIN : Hid (X.size ≤ s.data.toList.length ∧ Y.size < s.data.toList.length) := by show _ ∧ _; omega
    have HCL := Lib.hid (fun W => clone_any X W (by omega))
    have HR : Hid (∀ W, Upd noBlock (w.alloc (.cells #[.string ⟨#[]⟩, .bool false] 148)) W → ∀ v b, ((W.setCell ⟨w.heap.size, 0, none⟩ v).setCell ⟨w.heap.size, 1, none⟩ b).heap[w.heap.size]? = some (.cells #[v, b] 148 (0, 0)) ∧ Upd noBlock w ((W.setCell ⟨w.heap.size, 0, none⟩ v).setCell ⟨w.heap.size, 1, none⟩ b)) := fun W h v b =>
      ⟨block_set (block_set (h.cells (heap_alloc_new w _) (fun h => h)) v) b, ((((Upd.refl noBlock w).alloc _).trans h).setCell (p := ⟨w.heap.size, 0, none⟩) (.inr (Nat.le_refl _)) v).setCell (p := ⟨w.heap.size, 1, none⟩) (.inr (Nat.le_refl _)) b⟩
    have HCE : Hid (∀ W, Upd noBlock (w.alloc (.cells #[.string ⟨#[]⟩, .bool false] 148)) W → W.heap[w.heap.size]? = some (.cells #[.string ⟨#[]⟩, .bool false] 148 (0, 0))) := fun W h => h.cells (heap_alloc_new w _) (fun h => h)
    have hfd : Con.fd X.data.toList false = (X, false) := rfl
    rw [← hXd, ← hYd] at HLX
    have hz0 : (0 : Int) ≤ (m : Int) := by omega
    have hz1 : (m : Int) ≤ (s.size : Int) := by omega
    rw [hm] at hidx
    by_cases hDn : D = []
    · have hm2 : m = s.size := by rw [hDn] at htd; simp at htd; omega
      rw [if_pos hDn] at hidx
      rw [hidx] at HIA
      subst hm2
      have hYe : Y = ByteArray.empty := by rw [← hY]; simp
      rw [hYe] at HLX HFIN
      clear hYe
      have HLN := Lib.hid (rfl : s.data.toList = s.data.toList)
      clear hidx hDn hm happ hT hD hTpos htd hXd hYd hXz hYz hc h32 h34 hl
      generalize s.data.toList = l at *
      go_enter Tryz.func66, Tryz.ntmps66
      go_wp2_with (go_at_call 83; (with_reducible refine (HIA.out _).mono ?_); rintro e w1 ⟨rfl, hu⟩; have U1 := Lib.hid hu; have c0 := cell_of (HCE.out _ hu) 0; have c1 := cell_of (HCE.out _ hu) 1; have f0 := free_of (HCE.out _ hu) 0; have f1 := free_of (HCE.out _ hu) 1; clear hu)
      have HRD : Hid (∀ w2, Upd noBlock w1.drew w2 → Upd noBlock (w.alloc (.cells #[.string ⟨#[]⟩, .bool false] 148)) w2) := fun w2 h => (U1.out.drew).trans h
      go_region_with (go_at_call 84; (with_reducible refine (HCL.out _).mono ?_); rintro e w2 ⟨rfl, hu⟩; have HR1 := Lib.hid (HR.out _ (HRD.out _ hu) (.string X) (.bool false)); have d0 := cell_of (HCE.out _ (HRD.out _ hu)) 0; have d1 := cell_of (HCE.out _ (HRD.out _ hu)) 1; have e0 := free_of (HCE.out _ (HRD.out _ hu)) 0; have e1 := free_of (HCE.out _ (HRD.out _ hu)) 1; clear hu)
      all_goals
        go_wp2
        refine bodyPost_ret_by (res_ctt rfl _ _ w.heap.size _ _ _ _ _ _ rfl HR1.out.1 Tryz.underlying148 rfl fldInfo rfl rfl) rfl ⟨⟨(X, false), ByteArray.empty, true, rfl, HFIN.out.1, HFIN.out.2, fun out => ?_⟩, HR1.out.2⟩
        rw [HLX.out, hfd]
    · rw [if_neg hDn] at hidx
      rw [hidx] at HIA
      clear hidx hDn hm happ hT hD hTpos htd hXd hYd hXz hYz hc h32 h34 hl
      generalize s.data.toList = l at *
      go_enter Tryz.func66, Tryz.ntmps66
      go_wp2_with (go_at_call 83; (with_reducible refine (HIA.out _).mono ?_); rintro e w1 ⟨rfl, hu⟩; have U1 := Lib.hid hu; have c0 := cell_of (HCE.out _ hu) 0; have c1 := cell_of (HCE.out _ hu) 1; have f0 := free_of (HCE.out _ hu) 0; have f1 := free_of (HCE.out _ hu) 1; clear hu)
      have HRD : Hid (∀ w2, Upd noBlock w1.drew w2 → Upd noBlock (w.alloc (.cells #[.string ⟨#[]⟩, .bool false] 148)) w2) := fun w2 h => (U1.out.drew).trans h
      go_region_with (go_at_call 84; (with_reducible refine (HCL.out _).mono ?_); rintro e w2 ⟨rfl, hu⟩; have HR1 := Lib.hid (HR.out _ (HRD.out _ hu) (.string X) (.bool false)); have d0 := cell_of (HCE.out _ (HRD.out _ hu)) 0; have d1 := cell_of (HCE.out _ (HRD.out _ hu)) 1; have e0 := free_of (HCE.out _ (HRD.out _ hu)) 0; have e1 := free_of (HCE.out _ (HRD.out _ hu)) 1; clear hu)
      all_goals
        go_wp2
        refine bodyPost_ret_by (res_ctt rfl _ _ w.heap.size _ _ _ _ _ _ rfl HR1.out.1 Tryz.underlying148 rfl fldInfo rfl rfl) rfl ⟨⟨(X, false), Y, true, rfl, HFIN.out.1, HFIN.out.2, fun out => ?_⟩, HR1.out.2⟩
        rw [HLX.out, hfd]
end Go.Proofs.YthcjogigkagmdaaGreatDoor
