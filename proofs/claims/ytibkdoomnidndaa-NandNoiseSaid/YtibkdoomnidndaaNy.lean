/- NandNoise walked. -/
import Derived.Test.YtibkdoomnidndaaNx
import Derived.DataShut
namespace Go.Proofs.Ytibkdoomnidndaa
open Go.RowKit

structure NSt (M : Ch) (want : List UInt8) (seed most pc n : Nat) : Prop where
  nb : M.nb = 1
  np : M.np = 4
  sz : M.sz = 32
  off : M.off = false
  seed : M.seed = (seed : Int)
  most : M.most = (most : Int)
  piece : M.piece = (pc : Int)
  fit : M.Fit n
  pg : (M.bk 0).pg 0 = ⟨1, false, want⟩
def noise0 (want : List UInt8) : Ch := (newCh 1 4 32).progM 0 0 want
theorem noise0_e : (0 : Int) = (newCh 1 4 32).progE 0 0 := by decide
theorem noise0_is (want : List UInt8) : noise0 want = (newCh 1 4 32).changed.setBk 0 (newBk.setPg 0 (pg0.write want)) := rfl
theorem noise0_fit (want : List UInt8) : (noise0 want).Fit 1 := (newCh_fit 1 4 32).prog 0 0 want
theorem noise_st (want : List UInt8) (seed most pc : Nat) (si mi pi : Int) (h1 : IntKind.u64.wrap si = (seed : Int)) (h2 : mi = (most : Int)) (h3 : most ≤ 64) (h4 : pi = (pc : Int)) : NSt ((noise0 want).noiseM si mi pi) want seed most pc 1 := by
  have hf := (noise0_fit want).noise si mi pi
  refine ⟨rfl, rfl, rfl, rfl, h1, ?_, h4, hf, rfl⟩
  show min mi 64 = _
  omega
theorem NSt.read {M : Ch} {want : List UInt8} {seed most pc n : Nat} (h : NSt M want seed most pc n) : NSt (M.readM 0) want seed most pc (n + 1) :=
  ⟨h.nb, h.np, h.sz, h.off, h.seed, h.most, h.piece, h.fit.read 0, h.pg⟩
def LawN (w wr : World) (c bb : Nat) (pb : Nat → Nat) (M : Ch) : Prop := ChipIn wr c bb pb M ∧ Upd noBlock w wr
theorem LawN.drew {w wr : World} {c bb : Nat} {pb : Nat → Nat} {M : Ch} (h : LawN w wr c bb pb M) : LawN w wr.drew c bb pb M := ⟨h.1.drew, h.2.drew⟩
/-- what was read is near what was written -/
def byteN (s : ByteArray) (i : Nat) : Nat := (s.data.toList.getD i 0).toNat
def Near (s ws : ByteArray) (most pc : Nat) : Prop := s.size = 32 ∧ ∀ k, k ≤ 32 → countT (fun i => byteN s i ^^^ byteN ws i) pc k ≤ most
theorem countT_congr {d d' : Nat → Nat} {pc : Nat} : ∀ k, (∀ i, i < k → d i = d' i) → countT d pc k = countT d' pc k
  | 0, _ => rfl
  | k + 1, h => by rw [countT, countT, countT_congr k (fun i hi => h i (by omega)), h k (by omega)]
theorem noise_read (c bb : Nat) (pb : Nat → Nat) (M : Ch) (want : List UInt8) (ws : ByteArray) (hw : ws = ⟨want.toArray⟩) (hl : want.length = 32) (seed most pc n : Nat) (w0 w : World) (hL : LawN w0 w c bb pb M) (hB : ∀ k, Own c bb pb 1 k → w0.heap.size ≤ k) (hN : NSt M want seed most pc n) (hn : n < 2305843009213693952)
    (hs : seed < 18446744073709551616) (hm1 : 1 ≤ most) (hm2 : most ≤ 64) (hp1 : 1 ≤ pc) (hp2 : pc ≤ 32) :
    Calls Try.prog 17 #[.pointer (some ⟨c, 0, none⟩), .int .i64 0, .int .i64 0] w fun e w' => ∃ s : ByteArray, e = .returned (.tuple #[.string s, .int .i64 0]) ∧ Near s ws most pc ∧ LawN w0 w' c bb pb (M.readM 0) := by
  have hst : ((M.bk 0).pg 0).st = 1 := by rw [hN.pg]
  have hda : ((M.bk 0).pg 0).data = want := by rw [hN.pg]
  have := read_noise c bb pb M 0 0 n seed most pc want w hL.1 hN.fit hn (by rw [hN.nb]; omega) (by rw [hN.np]; omega) hN.off hN.seed hs hN.most hm1 hm2 hN.piece hp1 (by omega) (by rw [hN.sz]; exact hl) (by rw [hN.sz]; omega)
    (fun w1 h1 => by have := shown_written (pb 0) M.np M.sz 0 (M.bk 0) w1 h1 (by rw [hN.np]; omega) hst M.sz (by rw [hN.sz]; omega); rw [hda] at this; exact this)
  refine this.mono ?_
  rintro e w' ⟨rfl, h2, u2⟩
  refine ⟨_, rfl, ⟨?_, fun k hk => ?_⟩, h2, upd_new hL.2 (by rw [hN.nb] at u2; exact u2) hB⟩
  · show (noisy most pc _ want).length = 32
    rw [noisy_len]; exact hl
  · have hle := countT_le most want.length pc (placeN seed ((M.bk 0).rd + 1) 0 0) hm1 hp1 (fun i => (want.getD i 0).toNat) (fun i => (want.getD i 0).toNat_lt) k (by omega)
    refine Nat.le_trans (Nat.le_of_eq ?_) hle
    refine countT_congr k (fun i hi => ?_)
    have hlen : i < (noisy most pc (placeN seed ((M.bk 0).rd + 1) 0 0) want).length := by rw [noisy_len]; omega
    have hg := noisy_get most pc (placeN seed ((M.bk 0).rd + 1) 0 0) want i hlen
    have e1 : byteN ⟨(noisy most pc (placeN seed ((M.bk 0).rd + 1) 0 0) want).toArray⟩ i = noiseT most want.length pc (placeN seed ((M.bk 0).rd + 1) 0 0) (fun i => (want.getD i 0).toNat) i := by
      rw [← hg]
      show ((noisy most pc (placeN seed ((M.bk 0).rd + 1) 0 0) want).getD i 0).toNat = _
      rw [List.getD_eq_getElem?_getD, List.getElem?_eq_getElem hlen]; rfl
    rw [e1, hw]
    rfl
theorem noise_last (c bb : Nat) (pb : Nat → Nat) (M : Ch) (want : List UInt8) (ws : ByteArray) (hw : ws = ⟨want.toArray⟩) (seed most pc n : Nat) (si pi : Int) (w0 w : World) (hc : ChipIn w c bb pb (M.noiseM si 0 pi)) (hu : Upd noBlock w0 w) (hB : ∀ k, Own c bb pb 1 k → w0.heap.size ≤ k) (hN : NSt M want seed most pc n) (hn : n < 2305843009213693952) :
    Calls Try.prog 17 #[.pointer (some ⟨c, 0, none⟩), .int .i64 0, .int .i64 0] w fun e w' => e = .returned (.tuple #[.string ws, .int .i64 0]) ∧ Upd noBlock w0 w' := by
  have hpg : ((M.noiseM si 0 pi).bk 0).pg 0 = ⟨1, false, want⟩ := hN.pg
  have := read_in c bb pb (M.noiseM si 0 pi) 0 0 0 0 n rfl rfl ws (by rw [hpg, hw]; rfl) w hc (hN.fit.noise si 0 pi) (by omega) (by show 0 < M.nb; rw [hN.nb]; omega) (by show 0 < M.np; rw [hN.np]; omega) (by show 1 ≤ M.sz; rw [hN.sz]; omega) hN.off (.inl (by show min (0 : Int) 64 < 1; omega)) (by rw [hpg]; show 1 ≤ 2; omega)
  refine this.mono ?_
  rintro e w' ⟨rfl, h2, u2⟩
  rw [show (M.noiseM si 0 pi).nb = 1 from hN.nb] at u2
  exact ⟨rfl, upd_new hu u2 hB⟩
theorem noise_first (c bb : Nat) (pb : Nat → Nat) (want : List UInt8) (ws : ByteArray) (hw : ws = ⟨want.toArray⟩) (hl : want.length = 32) (w0 w : World) (h : ChipIn w c bb pb (newCh 1 4 32)) (hu : Upd noBlock w0 w) (hB : ∀ k, Own c bb pb 1 k → w0.heap.size ≤ k) :
    Calls Try.prog 15 #[.pointer (some ⟨c, 0, none⟩), .int .i64 0, .int .i64 0, .string ws] w fun e w' => e = .returned (.int .i64 0) ∧ LawN w0 w' c bb pb (noise0 want) := by
  refine (program_at c bb pb (newCh 1 4 32) 0 0 0 0 0 rfl rfl ws want (by rw [hw]) 0 noise0_e w h (newCh_fit 1 4 32) (by omega) (by show 0 < 1; omega) (by show 0 < 4; omega) (by rw [hw]; exact hl)).mono ?_
  rintro e w' ⟨rfl, h2, u2⟩
  exact ⟨rfl, h2, upd_new hu u2 hB⟩
theorem noise_set (c bb : Nat) (pb : Nat → Nat) (M : Ch) (s m p : Int) (w0 w : World) (h : LawN w0 w c bb pb M) (hB : ∀ k, Own c bb pb 1 k → w0.heap.size ≤ k) :
    Calls Try.prog 25 #[.pointer (some ⟨c, 0, none⟩), .int .i64 s, .int .i64 m, .int .i64 p] w fun e w' => e = .returned (.tuple #[]) ∧ LawN w0 w' c bb pb (M.noiseM s m p) := by
  refine (noise_any c bb pb M s m p w h.1).mono ?_
  rintro e w' ⟨rfl, h2, u2⟩
  exact ⟨rfl, h2, upd_new_c h.2 u2 hB⟩
theorem byte_at (s : ByteArray) (k : Nat) (h : k < s.size) : (s[k].toNat : Nat) = byteN s k := by
  unfold byteN
  rw [List.getD_eq_getElem?_getD, Array.getElem?_toList, Array.getElem?_eq_getElem h]; rfl
theorem pop_even (y : Nat) (h : y < 256) : pop y = y % 2 + pop (y / 2) := pop_half y h

set_option maxRecDepth 100000 in
set_option maxHeartbeats 3200000 in
theorem noise_ok (si : Int) (most pc : Nat) (hm1 : 1 ≤ most) (hm2 : most ≤ 64) (hp1 : 1 ≤ pc) (hp2 : pc ≤ 32) (w : World) :
    Calls Try.prog 5 #[.int .i64 si, .int .i64 (most : Int), .int .i64 (pc : Int)] w fun e w' => e = .returned (.bool true) ∧ Below w.heap.size w w' := by
  have b1 : decide ((most : Int) < 1) = false := decide_eq_false (by omega)
  have b2 : decide (64 < (most : Int)) = false := decide_eq_false (by omega)
  have b3 : decide ((pc : Int) < 1) = false := decide_eq_false (by omega)
  have b4 : decide (32 < (pc : Int)) = false := decide_eq_false (by omega)
  obtain ⟨seed, hseed, hseed2⟩ : ∃ seed : Nat, IntKind.u64.wrap si = (seed : Int) ∧ seed < 18446744073709551616 := ⟨(IntKind.u64.wrap si).toNat, by rw [IntKind.wrap_u64]; omega, by rw [IntKind.wrap_u64]; omega⟩
  have HSE := Lib.hid hseed
  have HS2 := Lib.hid hseed2
  clear hseed hseed2
  go_enter Try.func5, Try.ntmps5
  go_wp2_with (first | (go_at_call 10; refine (speaks_any _).mono ?_; rintro e w0 ⟨rfl, u0⟩; have U0 := Lib.hid u0; clear u0) | (go_at_call 11; refine (new_at 1 4 32 1 4 32 rfl rfl rfl _ (by omega) (by omega) (by omega) (by omega) (by omega) (by omega) (by omega)).mono ?_; rintro e w1 ⟨c, bb, pb, rfl, h1, u1, hB⟩; have H1 := Lib.hid h1; have U1 := Lib.hid (U0.out.trans u1); have HB : Hid (∀ k, Own c bb pb 1 k → w.heap.size ≤ k) := Lib.hid (fun k hk => Nat.le_trans U0.out.size (hB k hk)); clear h1 u1 hB))
  obtain ⟨ws, hws⟩ : ∃ ws, ws = (⟨#[97, 98, 99, 100, 101, 102, 103, 104, 105, 106, 107, 108, 109, 110, 111, 112, 113, 114, 115, 116, 117, 118, 119, 120, 121, 122, 48, 49, 50, 51, 52, 53]⟩ : ByteArray) := ⟨_, rfl⟩
  obtain ⟨want, hwant⟩ : ∃ want : List UInt8, want = [97, 98, 99, 100, 101, 102, 103, 104, 105, 106, 107, 108, 109, 110, 111, 112, 113, 114, 115, 116, 117, 118, 119, 120, 121, 122, 48, 49, 50, 51, 52, 53] := ⟨_, rfl⟩
  have HW : Hid (ws = ⟨want.toArray⟩ ∧ want.length = 32 ∧ ws.size = 32) := Lib.hid (by rw [hws, hwant]; exact ⟨rfl, rfl, rfl⟩)
  rw [← hws]
  clear hws hwant
  go_wp2_with (first | (go_at_call 15; ((with_reducible refine (noise_first c bb pb want ws HW.out.1 HW.out.2.1 w _ H1.out U1.out HB.out).mono ?_); rintro e w2 ⟨rfl, h2⟩; have HL2 := Lib.hid h2; clear h2)) | (go_at_call 25; ((with_reducible refine (noise_set c bb pb _ si (most : Int) (pc : Int) w _ HL2.out HB.out).mono ?_); rintro e w3 ⟨rfl, h3⟩; have HL3 := Lib.hid h3; clear h3)))
  clear HL2 H1 U1 U0
  go_loopw [10] (fun i wr => ∃ (q : Nat) (M : Ch), q ≤ 5 ∧ i = .int .i64 (q : Int) ∧ Hid (NSt M want seed most pc (q + 1)) ∧ Hid (LawN w wr c bb pb M)) (fun i _ => 5 - (intOf i).toNat)
  case atStart => exact ⟨0, _, Nat.zero_le _, rfl, Lib.hid (noise_st want seed most pc si (most : Int) (pc : Int) HSE.out rfl (by omega) rfl), HL3⟩
  case round =>
    obtain ⟨q, M, hq, rfl, hN, hL⟩ := hrel
    by_cases hlt : q < 5
    · have hd : decide ((q : Int) < 5) = true := decide_eq_true (by omega)
      go_wp2_with (first | (go_at_call 17; ((with_reducible refine (noise_read c bb pb M want ws HW.out.1 HW.out.2.1 seed most pc (q + 1) w _ hL.out HB.out hN.out (by omega) HS2.out (by omega) (by omega) (by omega) (by omega)).mono ?_); rintro e w4 ⟨s, rfl, hnear, h4⟩; have HNE := Lib.hid hnear; have HL4 := Lib.hid h4; have hsz : ((s.size : Int) != 32) = false := (by rw [hnear.1]; rfl); clear h4 hnear)))
      obtain ⟨d, hdd⟩ : ∃ d : Nat → Nat, d = fun i => byteN s i ^^^ byteN ws i := ⟨_, rfl⟩
      have hsz2 : Hid (s.size = 32) := Lib.hid HNE.out.1
      have HCT : Hid (∀ k, k ≤ 32 → countT d pc k ≤ most) := Lib.hid (by rw [hdd]; exact HNE.out.2)
      have HDD := Lib.hid hdd
      clear hdd
      go_loopw [13, 14, 15] (fun t i _ wr => ∃ k : Nat, k ≤ 32 ∧ t = .int .i64 ((countT d pc k : Nat) : Int) ∧ i = .int .i64 (k : Int) ∧ Hid (LawN w wr c bb pb (M.readM 0))) (fun _ i _ _ => 32 - (intOf i).toNat)
      case atStart => exact ⟨0, Nat.zero_le _, rfl, rfl, HL4⟩
      case round =>
        obtain ⟨k, hk, rfl, rfl, hL5⟩ := hrel
        by_cases hlt2 : k < 32
        · have hd2 : decide ((k : Int) < 32) = true := decide_eq_true (by omega)
          have hks : k < s.size := by rw [hsz2.out]; exact hlt2
          have hkw : k < ws.size := by rw [HW.out.2.2]; exact hlt2
          obtain ⟨x, hx⟩ : ∃ x, x = d k := ⟨_, rfl⟩
          have hxe : bits .xor .u8 (s[k].toNat : Int) (ws[k].toNat : Int) = (x : Int) := by
            rw [hx, HDD.out]
            show _ = ((byteN s k ^^^ byteN ws k : Nat) : Int)
            rw [← byte_at s k hks, ← byte_at ws k hkw]
            exact u8_xor_nat _ _ (UInt8.toNat_lt _) (UInt8.toNat_lt _)
          have hx256 : x < 256 := by
            rw [hx, HDD.out]
            exact Nat.xor_lt_two_pow (n := 8) (UInt8.toNat_lt _) (UInt8.toNat_lt _)
          obtain ⟨T, hT⟩ : ∃ T, T = countT d pc k := ⟨_, rfl⟩
          have HTS : Hid (countT d pc (k + 1) = (if k % pc = 0 then 0 else T) + pop x) := Lib.hid (by rw [countT, ← hT, ← hx])
          have hTb : T ≤ 64 := by have := HCT.out k hk; omega
          rw [← hT]
          clear hx hT
          have hLE : Hid (countT d pc (k + 1) ≤ most) := Lib.hid (HCT.out (k + 1) (by omega))
          by_cases hm0 : k % pc = 0
          · have hmb : ((k : Int) % (pc : Int) == 0) = true := beq_iff_eq.2 (by have : ((k % pc : Nat) : Int) = (k : Int) % (pc : Int) := Int.natCast_emod k pc; omega)
            have HT0 : Hid (countT d pc (k + 1) = 0 + pop x) := Lib.hid (by rw [HTS.out, if_pos hm0])
            clear HTS hm0
            go_wp2
            go_quiet (fail)
            go_wp2
            go_loopw [13, 15] (fun t y wr => ∃ (t' y' : Nat), t = .int .i64 (t' : Int) ∧ y = .int .u8 (y' : Int) ∧ y' < 256 ∧ t' ≤ 1000 ∧ Hid (t' + pop y' = 0 + pop x) ∧ Hid (LawN w wr c bb pb (M.readM 0))) (fun _ y _ => (intOf y).toNat)
            case atStart => exact ⟨0, x, rfl, rfl, hx256, by omega, Lib.hid rfl, by first | exact hL5 | exact Lib.hid (⟨hL5.out.1.drewN _, hL5.out.2.drewN _⟩)⟩
            case round =>
              obtain ⟨t', y', rfl, rfl, hy, ht1000, hsum, hL6⟩ := hrel
              by_cases hy0 : y' = 0
              · have hyb : ((y' : Int) != 0) = false := by rw [hy0]; rfl
                have hte : Hid (countT d pc (k + 1) = t') := Lib.hid (by have h1 := hsum.out; rw [hy0] at h1; have h0 : pop 0 = 0 := rfl; rw [HT0.out]; omega)
                have hle : t' ≤ most := by rw [← hte.out]; exact hLE.out
                have hgt : decide ((most : Int) < (t' : Int)) = false := decide_eq_false (by omega)
                have hgt2 : decide (most < t') = false := decide_eq_false (by omega)
                go_wp2
                go_roundw
                case rel => exact ⟨k + 1, by omega, by rw [hte.out], by go_num, hL6⟩
                case measure => simp [intOf]; omega
              · have hyb : ((y' : Int) != 0) = true := bne_iff_ne.2 (by omega)
                have hand : bits .and .u8 (y' : Int) 1 = ((y' % 2 : Nat) : Int) := by
                  have := u8_and_nat y' 1 hy (by omega)
                  rw [Nat.and_one_is_mod] at this
                  exact this
                obtain ⟨z, hz⟩ : ∃ z, z = y' % 2 := ⟨_, rfl⟩
                rw [← hz] at hand
                have hz2 : z ≤ 1 := by omega
                obtain ⟨v, hv⟩ : ∃ v, v = y' / 2 := ⟨_, rfl⟩
                have hve : (y' : Int) / 2 = (v : Int) := by omega
                have hph : Hid (pop y' = z + pop v) := Lib.hid (by rw [pop_half y' hy, ← hz, ← hv])
                have hvlt : v < y' := by omega
                have ht999 : t' ≤ 999 := by
                  have h1 := hsum.out
                  have h2 : pop x ≤ 8 := by unfold pop; omega
                  omega
                clear hz hv
                go_wp2
                go_roundw
                case rel => exact ⟨t' + z, v, by go_num, rfl, by omega, by omega, Lib.hid (by have h1 := hsum.out; have h2 := hph.out; omega), hL6⟩
                case measure => simp [intOf]; omega
          · have hmb : ((k : Int) % (pc : Int) == 0) = false := beq_eq_false_iff_ne.2 (by have : ((k % pc : Nat) : Int) = (k : Int) % (pc : Int) := Int.natCast_emod k pc; omega)
            have HT0 : Hid (countT d pc (k + 1) = T + pop x) := Lib.hid (by rw [HTS.out, if_neg hm0])
            clear HTS hm0
            go_wp2
            go_quiet (fail)
            go_wp2
            go_loopw [13, 15] (fun t y wr => ∃ (t' y' : Nat), t = .int .i64 (t' : Int) ∧ y = .int .u8 (y' : Int) ∧ y' < 256 ∧ t' ≤ 1000 ∧ Hid (t' + pop y' = T + pop x) ∧ Hid (LawN w wr c bb pb (M.readM 0))) (fun _ y _ => (intOf y).toNat)
            case atStart => exact ⟨T, x, rfl, rfl, hx256, by omega, Lib.hid rfl, by first | exact hL5 | exact Lib.hid (⟨hL5.out.1.drewN _, hL5.out.2.drewN _⟩)⟩
            case round =>
              obtain ⟨t', y', rfl, rfl, hy, ht1000, hsum, hL6⟩ := hrel
              by_cases hy0 : y' = 0
              · have hyb : ((y' : Int) != 0) = false := by rw [hy0]; rfl
                have hte : Hid (countT d pc (k + 1) = t') := Lib.hid (by have h1 := hsum.out; rw [hy0] at h1; have h0 : pop 0 = 0 := rfl; rw [HT0.out]; omega)
                have hle : t' ≤ most := by rw [← hte.out]; exact hLE.out
                have hgt : decide ((most : Int) < (t' : Int)) = false := decide_eq_false (by omega)
                have hgt2 : decide (most < t') = false := decide_eq_false (by omega)
                go_wp2
                go_roundw
                case rel => exact ⟨k + 1, by omega, by rw [hte.out], by go_num, hL6⟩
                case measure => simp [intOf]; omega
              · have hyb : ((y' : Int) != 0) = true := bne_iff_ne.2 (by omega)
                have hand : bits .and .u8 (y' : Int) 1 = ((y' % 2 : Nat) : Int) := by
                  have := u8_and_nat y' 1 hy (by omega)
                  rw [Nat.and_one_is_mod] at this
                  exact this
                obtain ⟨z, hz⟩ : ∃ z, z = y' % 2 := ⟨_, rfl⟩
                rw [← hz] at hand
                have hz2 : z ≤ 1 := by omega
                obtain ⟨v, hv⟩ : ∃ v, v = y' / 2 := ⟨_, rfl⟩
                have hve : (y' : Int) / 2 = (v : Int) := by omega
                have hph : Hid (pop y' = z + pop v) := Lib.hid (by rw [pop_half y' hy, ← hz, ← hv])
                have hvlt : v < y' := by omega
                have ht999 : t' ≤ 999 := by
                  have h1 := hsum.out
                  have h2 : pop x ≤ 8 := by unfold pop; omega
                  omega
                clear hz hv
                go_wp2
                go_roundw
                case rel => exact ⟨t' + z, v, by go_num, rfl, by omega, by omega, Lib.hid (by have h1 := hsum.out; have h2 := hph.out; omega), hL6⟩
                case measure => simp [intOf]; omega
        · have hd2 : decide ((k : Int) < 32) = false := decide_eq_false (by omega)
          go_wp2
          go_roundw
          case rel => exact ⟨q + 1, M.readM 0, by omega, by go_num, Lib.hid hN.out.read, hL5⟩
          case measure => simp [intOf]; omega
    · have hd : decide ((q : Int) < 5) = false := decide_eq_false (by omega)
      go_wp2_with (first | (go_at_call 25; ((with_reducible refine (noise_set c bb pb _ si 0 (pc : Int) w _ hL.out HB.out).mono ?_); rintro e w5 ⟨rfl, hc5, hu5⟩; have HC5 := Lib.hid hc5; have HU5 := Lib.hid hu5; clear hc5 hu5)) | (go_at_call 17; ((with_reducible refine (noise_last c bb pb M want ws HW.out.1 seed most pc (q + 1) si (pc : Int) w _ HC5.out HU5.out HB.out hN.out (by omega)).mono ?_); rintro e w6 ⟨rfl, u6⟩; have U6 := Lib.hid u6; clear u6)))
      go_ret
      exact ⟨rfl, U6.out.below (fun _ _ h => h)⟩

set_option maxRecDepth 100000 in
set_option maxHeartbeats 3200000 in
theorem noise_lo (si : Int) (mi pi : Int) (hb : mi < 1) (w : World) :
    Calls Try.prog 5 #[.int .i64 si, .int .i64 mi, .int .i64 pi] w fun e w' => e = .returned (.bool true) ∧ Below w.heap.size w w' := by
  have b1 : decide (mi < 1) = true := decide_eq_true hb
  clear hb
  obtain ⟨seed, hseed, hseed2⟩ : ∃ seed : Nat, IntKind.u64.wrap si = (seed : Int) ∧ seed < 18446744073709551616 := ⟨(IntKind.u64.wrap si).toNat, by rw [IntKind.wrap_u64]; omega, by rw [IntKind.wrap_u64]; omega⟩
  have HSE := Lib.hid hseed
  have HS2 := Lib.hid hseed2
  clear hseed hseed2
  go_enter Try.func5, Try.ntmps5
  go_wp2_with (first | (go_at_call 10; refine (speaks_any _).mono ?_; rintro e w0 ⟨rfl, u0⟩; have U0 := Lib.hid u0; clear u0) | (go_at_call 11; refine (new_at 1 4 32 1 4 32 rfl rfl rfl _ (by omega) (by omega) (by omega) (by omega) (by omega) (by omega) (by omega)).mono ?_; rintro e w1 ⟨c, bb, pb, rfl, h1, u1, hB⟩; have H1 := Lib.hid h1; have U1 := Lib.hid (U0.out.trans u1); have HB : Hid (∀ k, Own c bb pb 1 k → w.heap.size ≤ k) := Lib.hid (fun k hk => Nat.le_trans U0.out.size (hB k hk)); clear h1 u1 hB))
  obtain ⟨ws, hws⟩ : ∃ ws, ws = (⟨#[97, 98, 99, 100, 101, 102, 103, 104, 105, 106, 107, 108, 109, 110, 111, 112, 113, 114, 115, 116, 117, 118, 119, 120, 121, 122, 48, 49, 50, 51, 52, 53]⟩ : ByteArray) := ⟨_, rfl⟩
  obtain ⟨want, hwant⟩ : ∃ want : List UInt8, want = [97, 98, 99, 100, 101, 102, 103, 104, 105, 106, 107, 108, 109, 110, 111, 112, 113, 114, 115, 116, 117, 118, 119, 120, 121, 122, 48, 49, 50, 51, 52, 53] := ⟨_, rfl⟩
  have HW : Hid (ws = ⟨want.toArray⟩ ∧ want.length = 32 ∧ ws.size = 32) := Lib.hid (by rw [hws, hwant]; exact ⟨rfl, rfl, rfl⟩)
  rw [← hws]
  clear hws hwant
  go_wp2_with (first | (go_at_call 15; ((with_reducible refine (noise_first c bb pb want ws HW.out.1 HW.out.2.1 w _ H1.out U1.out HB.out).mono ?_); rintro e w2 ⟨rfl, h2⟩; have HL2 := Lib.hid h2; clear h2)) | (go_at_call 25; ((with_reducible refine (noise_set c bb pb _ si 3 7 w _ HL2.out HB.out).mono ?_); rintro e w3 ⟨rfl, h3⟩; have HL3 := Lib.hid h3; clear h3)))
  clear HL2 H1 U1 U0
  go_loopw [10] (fun i wr => ∃ (q : Nat) (M : Ch), q ≤ 5 ∧ i = .int .i64 (q : Int) ∧ Hid (NSt M want seed 3 7 (q + 1)) ∧ Hid (LawN w wr c bb pb M)) (fun i _ => 5 - (intOf i).toNat)
  case atStart => exact ⟨0, _, Nat.zero_le _, rfl, Lib.hid (noise_st want seed 3 7 si 3 7 HSE.out rfl (by omega) rfl), HL3⟩
  case round =>
    obtain ⟨q, M, hq, rfl, hN, hL⟩ := hrel
    by_cases hlt : q < 5
    · have hd : decide ((q : Int) < 5) = true := decide_eq_true (by omega)
      go_wp2_with (first | (go_at_call 17; ((with_reducible refine (noise_read c bb pb M want ws HW.out.1 HW.out.2.1 seed 3 7 (q + 1) w _ hL.out HB.out hN.out (by omega) HS2.out (by omega) (by omega) (by omega) (by omega)).mono ?_); rintro e w4 ⟨s, rfl, hnear, h4⟩; have HNE := Lib.hid hnear; have HL4 := Lib.hid h4; have hsz : ((s.size : Int) != 32) = false := (by rw [hnear.1]; rfl); clear h4 hnear)))
      obtain ⟨d, hdd⟩ : ∃ d : Nat → Nat, d = fun i => byteN s i ^^^ byteN ws i := ⟨_, rfl⟩
      have hsz2 : Hid (s.size = 32) := Lib.hid HNE.out.1
      have HCT : Hid (∀ k, k ≤ 32 → countT d 7 k ≤ 3) := Lib.hid (by rw [hdd]; exact HNE.out.2)
      have HDD := Lib.hid hdd
      clear hdd
      go_loopw [13, 14, 15] (fun t i _ wr => ∃ k : Nat, k ≤ 32 ∧ t = .int .i64 ((countT d 7 k : Nat) : Int) ∧ i = .int .i64 (k : Int) ∧ Hid (LawN w wr c bb pb (M.readM 0))) (fun _ i _ _ => 32 - (intOf i).toNat)
      case atStart => exact ⟨0, Nat.zero_le _, rfl, rfl, HL4⟩
      case round =>
        obtain ⟨k, hk, rfl, rfl, hL5⟩ := hrel
        by_cases hlt2 : k < 32
        · have hd2 : decide ((k : Int) < 32) = true := decide_eq_true (by omega)
          have hks : k < s.size := by rw [hsz2.out]; exact hlt2
          have hkw : k < ws.size := by rw [HW.out.2.2]; exact hlt2
          obtain ⟨x, hx⟩ : ∃ x, x = d k := ⟨_, rfl⟩
          have hxe : bits .xor .u8 (s[k].toNat : Int) (ws[k].toNat : Int) = (x : Int) := by
            rw [hx, HDD.out]
            show _ = ((byteN s k ^^^ byteN ws k : Nat) : Int)
            rw [← byte_at s k hks, ← byte_at ws k hkw]
            exact u8_xor_nat _ _ (UInt8.toNat_lt _) (UInt8.toNat_lt _)
          have hx256 : x < 256 := by
            rw [hx, HDD.out]
            exact Nat.xor_lt_two_pow (n := 8) (UInt8.toNat_lt _) (UInt8.toNat_lt _)
          obtain ⟨T, hT⟩ : ∃ T, T = countT d 7 k := ⟨_, rfl⟩
          have HTS : Hid (countT d 7 (k + 1) = (if k % 7 = 0 then 0 else T) + pop x) := Lib.hid (by rw [countT, ← hT, ← hx])
          have hTb : T ≤ 64 := by have := HCT.out k hk; omega
          rw [← hT]
          clear hx hT
          have hLE : Hid (countT d 7 (k + 1) ≤ 3) := Lib.hid (HCT.out (k + 1) (by omega))
          by_cases hm0 : k % 7 = 0
          · have hmb : ((k : Int) % 7 == 0) = true := beq_iff_eq.2 (by omega)
            have HT0 : Hid (countT d 7 (k + 1) = 0 + pop x) := Lib.hid (by rw [HTS.out, if_pos hm0])
            clear HTS hm0
            go_wp2
            go_quiet (fail)
            go_wp2
            go_loopw [13, 15] (fun t y wr => ∃ (t' y' : Nat), t = .int .i64 (t' : Int) ∧ y = .int .u8 (y' : Int) ∧ y' < 256 ∧ t' ≤ 1000 ∧ Hid (t' + pop y' = 0 + pop x) ∧ Hid (LawN w wr c bb pb (M.readM 0))) (fun _ y _ => (intOf y).toNat)
            case atStart => exact ⟨0, x, rfl, rfl, hx256, by omega, Lib.hid rfl, by first | exact hL5 | exact Lib.hid (⟨hL5.out.1.drewN _, hL5.out.2.drewN _⟩)⟩
            case round =>
              obtain ⟨t', y', rfl, rfl, hy, ht1000, hsum, hL6⟩ := hrel
              by_cases hy0 : y' = 0
              · have hyb : ((y' : Int) != 0) = false := by rw [hy0]; rfl
                have hte : Hid (countT d 7 (k + 1) = t') := Lib.hid (by have h1 := hsum.out; rw [hy0] at h1; have h0 : pop 0 = 0 := rfl; rw [HT0.out]; omega)
                have hle : t' ≤ 3 := by rw [← hte.out]; exact hLE.out
                have hgt : decide (3 < (t' : Int)) = false := decide_eq_false (by omega)
                have hgt2 : decide (3 < t') = false := decide_eq_false (by omega)
                go_wp2
                go_roundw
                case rel => exact ⟨k + 1, by omega, by rw [hte.out], by go_num, hL6⟩
                case measure => simp [intOf]; omega
              · have hyb : ((y' : Int) != 0) = true := bne_iff_ne.2 (by omega)
                have hand : bits .and .u8 (y' : Int) 1 = ((y' % 2 : Nat) : Int) := by
                  have := u8_and_nat y' 1 hy (by omega)
                  rw [Nat.and_one_is_mod] at this
                  exact this
                obtain ⟨z, hz⟩ : ∃ z, z = y' % 2 := ⟨_, rfl⟩
                rw [← hz] at hand
                have hz2 : z ≤ 1 := by omega
                obtain ⟨v, hv⟩ : ∃ v, v = y' / 2 := ⟨_, rfl⟩
                have hve : (y' : Int) / 2 = (v : Int) := by omega
                have hph : Hid (pop y' = z + pop v) := Lib.hid (by rw [pop_half y' hy, ← hz, ← hv])
                have hvlt : v < y' := by omega
                have ht999 : t' ≤ 999 := by
                  have h1 := hsum.out
                  have h2 : pop x ≤ 8 := by unfold pop; omega
                  omega
                clear hz hv
                go_wp2
                go_roundw
                case rel => exact ⟨t' + z, v, by go_num, rfl, by omega, by omega, Lib.hid (by have h1 := hsum.out; have h2 := hph.out; omega), hL6⟩
                case measure => simp [intOf]; omega
          · have hmb : ((k : Int) % 7 == 0) = false := beq_eq_false_iff_ne.2 (by omega)
            have HT0 : Hid (countT d 7 (k + 1) = T + pop x) := Lib.hid (by rw [HTS.out, if_neg hm0])
            clear HTS hm0
            go_wp2
            go_quiet (fail)
            go_wp2
            go_loopw [13, 15] (fun t y wr => ∃ (t' y' : Nat), t = .int .i64 (t' : Int) ∧ y = .int .u8 (y' : Int) ∧ y' < 256 ∧ t' ≤ 1000 ∧ Hid (t' + pop y' = T + pop x) ∧ Hid (LawN w wr c bb pb (M.readM 0))) (fun _ y _ => (intOf y).toNat)
            case atStart => exact ⟨T, x, rfl, rfl, hx256, by omega, Lib.hid rfl, by first | exact hL5 | exact Lib.hid (⟨hL5.out.1.drewN _, hL5.out.2.drewN _⟩)⟩
            case round =>
              obtain ⟨t', y', rfl, rfl, hy, ht1000, hsum, hL6⟩ := hrel
              by_cases hy0 : y' = 0
              · have hyb : ((y' : Int) != 0) = false := by rw [hy0]; rfl
                have hte : Hid (countT d 7 (k + 1) = t') := Lib.hid (by have h1 := hsum.out; rw [hy0] at h1; have h0 : pop 0 = 0 := rfl; rw [HT0.out]; omega)
                have hle : t' ≤ 3 := by rw [← hte.out]; exact hLE.out
                have hgt : decide (3 < (t' : Int)) = false := decide_eq_false (by omega)
                have hgt2 : decide (3 < t') = false := decide_eq_false (by omega)
                go_wp2
                go_roundw
                case rel => exact ⟨k + 1, by omega, by rw [hte.out], by go_num, hL6⟩
                case measure => simp [intOf]; omega
              · have hyb : ((y' : Int) != 0) = true := bne_iff_ne.2 (by omega)
                have hand : bits .and .u8 (y' : Int) 1 = ((y' % 2 : Nat) : Int) := by
                  have := u8_and_nat y' 1 hy (by omega)
                  rw [Nat.and_one_is_mod] at this
                  exact this
                obtain ⟨z, hz⟩ : ∃ z, z = y' % 2 := ⟨_, rfl⟩
                rw [← hz] at hand
                have hz2 : z ≤ 1 := by omega
                obtain ⟨v, hv⟩ : ∃ v, v = y' / 2 := ⟨_, rfl⟩
                have hve : (y' : Int) / 2 = (v : Int) := by omega
                have hph : Hid (pop y' = z + pop v) := Lib.hid (by rw [pop_half y' hy, ← hz, ← hv])
                have hvlt : v < y' := by omega
                have ht999 : t' ≤ 999 := by
                  have h1 := hsum.out
                  have h2 : pop x ≤ 8 := by unfold pop; omega
                  omega
                clear hz hv
                go_wp2
                go_roundw
                case rel => exact ⟨t' + z, v, by go_num, rfl, by omega, by omega, Lib.hid (by have h1 := hsum.out; have h2 := hph.out; omega), hL6⟩
                case measure => simp [intOf]; omega
        · have hd2 : decide ((k : Int) < 32) = false := decide_eq_false (by omega)
          go_wp2
          go_roundw
          case rel => exact ⟨q + 1, M.readM 0, by omega, by go_num, Lib.hid hN.out.read, hL5⟩
          case measure => simp [intOf]; omega
    · have hd : decide ((q : Int) < 5) = false := decide_eq_false (by omega)
      go_wp2_with (first | (go_at_call 25; ((with_reducible refine (noise_set c bb pb _ si 0 7 w _ hL.out HB.out).mono ?_); rintro e w5 ⟨rfl, hc5, hu5⟩; have HC5 := Lib.hid hc5; have HU5 := Lib.hid hu5; clear hc5 hu5)) | (go_at_call 17; ((with_reducible refine (noise_last c bb pb M want ws HW.out.1 seed 3 7 (q + 1) si 7 w _ HC5.out HU5.out HB.out hN.out (by omega)).mono ?_); rintro e w6 ⟨rfl, u6⟩; have U6 := Lib.hid u6; clear u6)))
      go_ret
      exact ⟨rfl, U6.out.below (fun _ _ h => h)⟩

set_option maxRecDepth 100000 in
set_option maxHeartbeats 3200000 in
theorem noise_hi (si : Int) (mi pi : Int) (hb : 64 < mi) (w : World) :
    Calls Try.prog 5 #[.int .i64 si, .int .i64 mi, .int .i64 pi] w fun e w' => e = .returned (.bool true) ∧ Below w.heap.size w w' := by
  have b1 : decide (mi < 1) = false := decide_eq_false (by omega)
  have b2 : decide (64 < mi) = true := decide_eq_true hb
  clear hb
  obtain ⟨seed, hseed, hseed2⟩ : ∃ seed : Nat, IntKind.u64.wrap si = (seed : Int) ∧ seed < 18446744073709551616 := ⟨(IntKind.u64.wrap si).toNat, by rw [IntKind.wrap_u64]; omega, by rw [IntKind.wrap_u64]; omega⟩
  have HSE := Lib.hid hseed
  have HS2 := Lib.hid hseed2
  clear hseed hseed2
  go_enter Try.func5, Try.ntmps5
  go_wp2_with (first | (go_at_call 10; refine (speaks_any _).mono ?_; rintro e w0 ⟨rfl, u0⟩; have U0 := Lib.hid u0; clear u0) | (go_at_call 11; refine (new_at 1 4 32 1 4 32 rfl rfl rfl _ (by omega) (by omega) (by omega) (by omega) (by omega) (by omega) (by omega)).mono ?_; rintro e w1 ⟨c, bb, pb, rfl, h1, u1, hB⟩; have H1 := Lib.hid h1; have U1 := Lib.hid (U0.out.trans u1); have HB : Hid (∀ k, Own c bb pb 1 k → w.heap.size ≤ k) := Lib.hid (fun k hk => Nat.le_trans U0.out.size (hB k hk)); clear h1 u1 hB))
  obtain ⟨ws, hws⟩ : ∃ ws, ws = (⟨#[97, 98, 99, 100, 101, 102, 103, 104, 105, 106, 107, 108, 109, 110, 111, 112, 113, 114, 115, 116, 117, 118, 119, 120, 121, 122, 48, 49, 50, 51, 52, 53]⟩ : ByteArray) := ⟨_, rfl⟩
  obtain ⟨want, hwant⟩ : ∃ want : List UInt8, want = [97, 98, 99, 100, 101, 102, 103, 104, 105, 106, 107, 108, 109, 110, 111, 112, 113, 114, 115, 116, 117, 118, 119, 120, 121, 122, 48, 49, 50, 51, 52, 53] := ⟨_, rfl⟩
  have HW : Hid (ws = ⟨want.toArray⟩ ∧ want.length = 32 ∧ ws.size = 32) := Lib.hid (by rw [hws, hwant]; exact ⟨rfl, rfl, rfl⟩)
  rw [← hws]
  clear hws hwant
  go_wp2_with (first | (go_at_call 15; ((with_reducible refine (noise_first c bb pb want ws HW.out.1 HW.out.2.1 w _ H1.out U1.out HB.out).mono ?_); rintro e w2 ⟨rfl, h2⟩; have HL2 := Lib.hid h2; clear h2)) | (go_at_call 25; ((with_reducible refine (noise_set c bb pb _ si 3 7 w _ HL2.out HB.out).mono ?_); rintro e w3 ⟨rfl, h3⟩; have HL3 := Lib.hid h3; clear h3)))
  clear HL2 H1 U1 U0
  go_loopw [10] (fun i wr => ∃ (q : Nat) (M : Ch), q ≤ 5 ∧ i = .int .i64 (q : Int) ∧ Hid (NSt M want seed 3 7 (q + 1)) ∧ Hid (LawN w wr c bb pb M)) (fun i _ => 5 - (intOf i).toNat)
  case atStart => exact ⟨0, _, Nat.zero_le _, rfl, Lib.hid (noise_st want seed 3 7 si 3 7 HSE.out rfl (by omega) rfl), HL3⟩
  case round =>
    obtain ⟨q, M, hq, rfl, hN, hL⟩ := hrel
    by_cases hlt : q < 5
    · have hd : decide ((q : Int) < 5) = true := decide_eq_true (by omega)
      go_wp2_with (first | (go_at_call 17; ((with_reducible refine (noise_read c bb pb M want ws HW.out.1 HW.out.2.1 seed 3 7 (q + 1) w _ hL.out HB.out hN.out (by omega) HS2.out (by omega) (by omega) (by omega) (by omega)).mono ?_); rintro e w4 ⟨s, rfl, hnear, h4⟩; have HNE := Lib.hid hnear; have HL4 := Lib.hid h4; have hsz : ((s.size : Int) != 32) = false := (by rw [hnear.1]; rfl); clear h4 hnear)))
      obtain ⟨d, hdd⟩ : ∃ d : Nat → Nat, d = fun i => byteN s i ^^^ byteN ws i := ⟨_, rfl⟩
      have hsz2 : Hid (s.size = 32) := Lib.hid HNE.out.1
      have HCT : Hid (∀ k, k ≤ 32 → countT d 7 k ≤ 3) := Lib.hid (by rw [hdd]; exact HNE.out.2)
      have HDD := Lib.hid hdd
      clear hdd
      go_loopw [13, 14, 15] (fun t i _ wr => ∃ k : Nat, k ≤ 32 ∧ t = .int .i64 ((countT d 7 k : Nat) : Int) ∧ i = .int .i64 (k : Int) ∧ Hid (LawN w wr c bb pb (M.readM 0))) (fun _ i _ _ => 32 - (intOf i).toNat)
      case atStart => exact ⟨0, Nat.zero_le _, rfl, rfl, HL4⟩
      case round =>
        obtain ⟨k, hk, rfl, rfl, hL5⟩ := hrel
        by_cases hlt2 : k < 32
        · have hd2 : decide ((k : Int) < 32) = true := decide_eq_true (by omega)
          have hks : k < s.size := by rw [hsz2.out]; exact hlt2
          have hkw : k < ws.size := by rw [HW.out.2.2]; exact hlt2
          obtain ⟨x, hx⟩ : ∃ x, x = d k := ⟨_, rfl⟩
          have hxe : bits .xor .u8 (s[k].toNat : Int) (ws[k].toNat : Int) = (x : Int) := by
            rw [hx, HDD.out]
            show _ = ((byteN s k ^^^ byteN ws k : Nat) : Int)
            rw [← byte_at s k hks, ← byte_at ws k hkw]
            exact u8_xor_nat _ _ (UInt8.toNat_lt _) (UInt8.toNat_lt _)
          have hx256 : x < 256 := by
            rw [hx, HDD.out]
            exact Nat.xor_lt_two_pow (n := 8) (UInt8.toNat_lt _) (UInt8.toNat_lt _)
          obtain ⟨T, hT⟩ : ∃ T, T = countT d 7 k := ⟨_, rfl⟩
          have HTS : Hid (countT d 7 (k + 1) = (if k % 7 = 0 then 0 else T) + pop x) := Lib.hid (by rw [countT, ← hT, ← hx])
          have hTb : T ≤ 64 := by have := HCT.out k hk; omega
          rw [← hT]
          clear hx hT
          have hLE : Hid (countT d 7 (k + 1) ≤ 3) := Lib.hid (HCT.out (k + 1) (by omega))
          by_cases hm0 : k % 7 = 0
          · have hmb : ((k : Int) % 7 == 0) = true := beq_iff_eq.2 (by omega)
            have HT0 : Hid (countT d 7 (k + 1) = 0 + pop x) := Lib.hid (by rw [HTS.out, if_pos hm0])
            clear HTS hm0
            go_wp2
            go_quiet (fail)
            go_wp2
            go_loopw [13, 15] (fun t y wr => ∃ (t' y' : Nat), t = .int .i64 (t' : Int) ∧ y = .int .u8 (y' : Int) ∧ y' < 256 ∧ t' ≤ 1000 ∧ Hid (t' + pop y' = 0 + pop x) ∧ Hid (LawN w wr c bb pb (M.readM 0))) (fun _ y _ => (intOf y).toNat)
            case atStart => exact ⟨0, x, rfl, rfl, hx256, by omega, Lib.hid rfl, by first | exact hL5 | exact Lib.hid (⟨hL5.out.1.drewN _, hL5.out.2.drewN _⟩)⟩
            case round =>
              obtain ⟨t', y', rfl, rfl, hy, ht1000, hsum, hL6⟩ := hrel
              by_cases hy0 : y' = 0
              · have hyb : ((y' : Int) != 0) = false := by rw [hy0]; rfl
                have hte : Hid (countT d 7 (k + 1) = t') := Lib.hid (by have h1 := hsum.out; rw [hy0] at h1; have h0 : pop 0 = 0 := rfl; rw [HT0.out]; omega)
                have hle : t' ≤ 3 := by rw [← hte.out]; exact hLE.out
                have hgt : decide (3 < (t' : Int)) = false := decide_eq_false (by omega)
                have hgt2 : decide (3 < t') = false := decide_eq_false (by omega)
                go_wp2
                go_roundw
                case rel => exact ⟨k + 1, by omega, by rw [hte.out], by go_num, hL6⟩
                case measure => simp [intOf]; omega
              · have hyb : ((y' : Int) != 0) = true := bne_iff_ne.2 (by omega)
                have hand : bits .and .u8 (y' : Int) 1 = ((y' % 2 : Nat) : Int) := by
                  have := u8_and_nat y' 1 hy (by omega)
                  rw [Nat.and_one_is_mod] at this
                  exact this
                obtain ⟨z, hz⟩ : ∃ z, z = y' % 2 := ⟨_, rfl⟩
                rw [← hz] at hand
                have hz2 : z ≤ 1 := by omega
                obtain ⟨v, hv⟩ : ∃ v, v = y' / 2 := ⟨_, rfl⟩
                have hve : (y' : Int) / 2 = (v : Int) := by omega
                have hph : Hid (pop y' = z + pop v) := Lib.hid (by rw [pop_half y' hy, ← hz, ← hv])
                have hvlt : v < y' := by omega
                have ht999 : t' ≤ 999 := by
                  have h1 := hsum.out
                  have h2 : pop x ≤ 8 := by unfold pop; omega
                  omega
                clear hz hv
                go_wp2
                go_roundw
                case rel => exact ⟨t' + z, v, by go_num, rfl, by omega, by omega, Lib.hid (by have h1 := hsum.out; have h2 := hph.out; omega), hL6⟩
                case measure => simp [intOf]; omega
          · have hmb : ((k : Int) % 7 == 0) = false := beq_eq_false_iff_ne.2 (by omega)
            have HT0 : Hid (countT d 7 (k + 1) = T + pop x) := Lib.hid (by rw [HTS.out, if_neg hm0])
            clear HTS hm0
            go_wp2
            go_quiet (fail)
            go_wp2
            go_loopw [13, 15] (fun t y wr => ∃ (t' y' : Nat), t = .int .i64 (t' : Int) ∧ y = .int .u8 (y' : Int) ∧ y' < 256 ∧ t' ≤ 1000 ∧ Hid (t' + pop y' = T + pop x) ∧ Hid (LawN w wr c bb pb (M.readM 0))) (fun _ y _ => (intOf y).toNat)
            case atStart => exact ⟨T, x, rfl, rfl, hx256, by omega, Lib.hid rfl, by first | exact hL5 | exact Lib.hid (⟨hL5.out.1.drewN _, hL5.out.2.drewN _⟩)⟩
            case round =>
              obtain ⟨t', y', rfl, rfl, hy, ht1000, hsum, hL6⟩ := hrel
              by_cases hy0 : y' = 0
              · have hyb : ((y' : Int) != 0) = false := by rw [hy0]; rfl
                have hte : Hid (countT d 7 (k + 1) = t') := Lib.hid (by have h1 := hsum.out; rw [hy0] at h1; have h0 : pop 0 = 0 := rfl; rw [HT0.out]; omega)
                have hle : t' ≤ 3 := by rw [← hte.out]; exact hLE.out
                have hgt : decide (3 < (t' : Int)) = false := decide_eq_false (by omega)
                have hgt2 : decide (3 < t') = false := decide_eq_false (by omega)
                go_wp2
                go_roundw
                case rel => exact ⟨k + 1, by omega, by rw [hte.out], by go_num, hL6⟩
                case measure => simp [intOf]; omega
              · have hyb : ((y' : Int) != 0) = true := bne_iff_ne.2 (by omega)
                have hand : bits .and .u8 (y' : Int) 1 = ((y' % 2 : Nat) : Int) := by
                  have := u8_and_nat y' 1 hy (by omega)
                  rw [Nat.and_one_is_mod] at this
                  exact this
                obtain ⟨z, hz⟩ : ∃ z, z = y' % 2 := ⟨_, rfl⟩
                rw [← hz] at hand
                have hz2 : z ≤ 1 := by omega
                obtain ⟨v, hv⟩ : ∃ v, v = y' / 2 := ⟨_, rfl⟩
                have hve : (y' : Int) / 2 = (v : Int) := by omega
                have hph : Hid (pop y' = z + pop v) := Lib.hid (by rw [pop_half y' hy, ← hz, ← hv])
                have hvlt : v < y' := by omega
                have ht999 : t' ≤ 999 := by
                  have h1 := hsum.out
                  have h2 : pop x ≤ 8 := by unfold pop; omega
                  omega
                clear hz hv
                go_wp2
                go_roundw
                case rel => exact ⟨t' + z, v, by go_num, rfl, by omega, by omega, Lib.hid (by have h1 := hsum.out; have h2 := hph.out; omega), hL6⟩
                case measure => simp [intOf]; omega
        · have hd2 : decide ((k : Int) < 32) = false := decide_eq_false (by omega)
          go_wp2
          go_roundw
          case rel => exact ⟨q + 1, M.readM 0, by omega, by go_num, Lib.hid hN.out.read, hL5⟩
          case measure => simp [intOf]; omega
    · have hd : decide ((q : Int) < 5) = false := decide_eq_false (by omega)
      go_wp2_with (first | (go_at_call 25; ((with_reducible refine (noise_set c bb pb _ si 0 7 w _ hL.out HB.out).mono ?_); rintro e w5 ⟨rfl, hc5, hu5⟩; have HC5 := Lib.hid hc5; have HU5 := Lib.hid hu5; clear hc5 hu5)) | (go_at_call 17; ((with_reducible refine (noise_last c bb pb M want ws HW.out.1 seed 3 7 (q + 1) si 7 w _ HC5.out HU5.out HB.out hN.out (by omega)).mono ?_); rintro e w6 ⟨rfl, u6⟩; have U6 := Lib.hid u6; clear u6)))
      go_ret
      exact ⟨rfl, U6.out.below (fun _ _ h => h)⟩

set_option maxRecDepth 100000 in
set_option maxHeartbeats 3200000 in
theorem noise_plo (si : Int) (mi pi : Int) (ha : 1 ≤ mi) (hc : mi ≤ 64) (hb : pi < 1) (w : World) :
    Calls Try.prog 5 #[.int .i64 si, .int .i64 mi, .int .i64 pi] w fun e w' => e = .returned (.bool true) ∧ Below w.heap.size w w' := by
  have b1 : decide (mi < 1) = false := decide_eq_false (by omega)
  have b2 : decide (64 < mi) = false := decide_eq_false (by omega)
  have b3 : decide (pi < 1) = true := decide_eq_true hb
  clear ha hb hc
  obtain ⟨seed, hseed, hseed2⟩ : ∃ seed : Nat, IntKind.u64.wrap si = (seed : Int) ∧ seed < 18446744073709551616 := ⟨(IntKind.u64.wrap si).toNat, by rw [IntKind.wrap_u64]; omega, by rw [IntKind.wrap_u64]; omega⟩
  have HSE := Lib.hid hseed
  have HS2 := Lib.hid hseed2
  clear hseed hseed2
  go_enter Try.func5, Try.ntmps5
  go_wp2_with (first | (go_at_call 10; refine (speaks_any _).mono ?_; rintro e w0 ⟨rfl, u0⟩; have U0 := Lib.hid u0; clear u0) | (go_at_call 11; refine (new_at 1 4 32 1 4 32 rfl rfl rfl _ (by omega) (by omega) (by omega) (by omega) (by omega) (by omega) (by omega)).mono ?_; rintro e w1 ⟨c, bb, pb, rfl, h1, u1, hB⟩; have H1 := Lib.hid h1; have U1 := Lib.hid (U0.out.trans u1); have HB : Hid (∀ k, Own c bb pb 1 k → w.heap.size ≤ k) := Lib.hid (fun k hk => Nat.le_trans U0.out.size (hB k hk)); clear h1 u1 hB))
  obtain ⟨ws, hws⟩ : ∃ ws, ws = (⟨#[97, 98, 99, 100, 101, 102, 103, 104, 105, 106, 107, 108, 109, 110, 111, 112, 113, 114, 115, 116, 117, 118, 119, 120, 121, 122, 48, 49, 50, 51, 52, 53]⟩ : ByteArray) := ⟨_, rfl⟩
  obtain ⟨want, hwant⟩ : ∃ want : List UInt8, want = [97, 98, 99, 100, 101, 102, 103, 104, 105, 106, 107, 108, 109, 110, 111, 112, 113, 114, 115, 116, 117, 118, 119, 120, 121, 122, 48, 49, 50, 51, 52, 53] := ⟨_, rfl⟩
  have HW : Hid (ws = ⟨want.toArray⟩ ∧ want.length = 32 ∧ ws.size = 32) := Lib.hid (by rw [hws, hwant]; exact ⟨rfl, rfl, rfl⟩)
  rw [← hws]
  clear hws hwant
  go_wp2_with (first | (go_at_call 15; ((with_reducible refine (noise_first c bb pb want ws HW.out.1 HW.out.2.1 w _ H1.out U1.out HB.out).mono ?_); rintro e w2 ⟨rfl, h2⟩; have HL2 := Lib.hid h2; clear h2)) | (go_at_call 25; ((with_reducible refine (noise_set c bb pb _ si 3 7 w _ HL2.out HB.out).mono ?_); rintro e w3 ⟨rfl, h3⟩; have HL3 := Lib.hid h3; clear h3)))
  clear HL2 H1 U1 U0
  go_loopw [10] (fun i wr => ∃ (q : Nat) (M : Ch), q ≤ 5 ∧ i = .int .i64 (q : Int) ∧ Hid (NSt M want seed 3 7 (q + 1)) ∧ Hid (LawN w wr c bb pb M)) (fun i _ => 5 - (intOf i).toNat)
  case atStart => exact ⟨0, _, Nat.zero_le _, rfl, Lib.hid (noise_st want seed 3 7 si 3 7 HSE.out rfl (by omega) rfl), HL3⟩
  case round =>
    obtain ⟨q, M, hq, rfl, hN, hL⟩ := hrel
    by_cases hlt : q < 5
    · have hd : decide ((q : Int) < 5) = true := decide_eq_true (by omega)
      go_wp2_with (first | (go_at_call 17; ((with_reducible refine (noise_read c bb pb M want ws HW.out.1 HW.out.2.1 seed 3 7 (q + 1) w _ hL.out HB.out hN.out (by omega) HS2.out (by omega) (by omega) (by omega) (by omega)).mono ?_); rintro e w4 ⟨s, rfl, hnear, h4⟩; have HNE := Lib.hid hnear; have HL4 := Lib.hid h4; have hsz : ((s.size : Int) != 32) = false := (by rw [hnear.1]; rfl); clear h4 hnear)))
      obtain ⟨d, hdd⟩ : ∃ d : Nat → Nat, d = fun i => byteN s i ^^^ byteN ws i := ⟨_, rfl⟩
      have hsz2 : Hid (s.size = 32) := Lib.hid HNE.out.1
      have HCT : Hid (∀ k, k ≤ 32 → countT d 7 k ≤ 3) := Lib.hid (by rw [hdd]; exact HNE.out.2)
      have HDD := Lib.hid hdd
      clear hdd
      go_loopw [13, 14, 15] (fun t i _ wr => ∃ k : Nat, k ≤ 32 ∧ t = .int .i64 ((countT d 7 k : Nat) : Int) ∧ i = .int .i64 (k : Int) ∧ Hid (LawN w wr c bb pb (M.readM 0))) (fun _ i _ _ => 32 - (intOf i).toNat)
      case atStart => exact ⟨0, Nat.zero_le _, rfl, rfl, HL4⟩
      case round =>
        obtain ⟨k, hk, rfl, rfl, hL5⟩ := hrel
        by_cases hlt2 : k < 32
        · have hd2 : decide ((k : Int) < 32) = true := decide_eq_true (by omega)
          have hks : k < s.size := by rw [hsz2.out]; exact hlt2
          have hkw : k < ws.size := by rw [HW.out.2.2]; exact hlt2
          obtain ⟨x, hx⟩ : ∃ x, x = d k := ⟨_, rfl⟩
          have hxe : bits .xor .u8 (s[k].toNat : Int) (ws[k].toNat : Int) = (x : Int) := by
            rw [hx, HDD.out]
            show _ = ((byteN s k ^^^ byteN ws k : Nat) : Int)
            rw [← byte_at s k hks, ← byte_at ws k hkw]
            exact u8_xor_nat _ _ (UInt8.toNat_lt _) (UInt8.toNat_lt _)
          have hx256 : x < 256 := by
            rw [hx, HDD.out]
            exact Nat.xor_lt_two_pow (n := 8) (UInt8.toNat_lt _) (UInt8.toNat_lt _)
          obtain ⟨T, hT⟩ : ∃ T, T = countT d 7 k := ⟨_, rfl⟩
          have HTS : Hid (countT d 7 (k + 1) = (if k % 7 = 0 then 0 else T) + pop x) := Lib.hid (by rw [countT, ← hT, ← hx])
          have hTb : T ≤ 64 := by have := HCT.out k hk; omega
          rw [← hT]
          clear hx hT
          have hLE : Hid (countT d 7 (k + 1) ≤ 3) := Lib.hid (HCT.out (k + 1) (by omega))
          by_cases hm0 : k % 7 = 0
          · have hmb : ((k : Int) % 7 == 0) = true := beq_iff_eq.2 (by omega)
            have HT0 : Hid (countT d 7 (k + 1) = 0 + pop x) := Lib.hid (by rw [HTS.out, if_pos hm0])
            clear HTS hm0
            go_wp2
            go_quiet (fail)
            go_wp2
            go_loopw [13, 15] (fun t y wr => ∃ (t' y' : Nat), t = .int .i64 (t' : Int) ∧ y = .int .u8 (y' : Int) ∧ y' < 256 ∧ t' ≤ 1000 ∧ Hid (t' + pop y' = 0 + pop x) ∧ Hid (LawN w wr c bb pb (M.readM 0))) (fun _ y _ => (intOf y).toNat)
            case atStart => exact ⟨0, x, rfl, rfl, hx256, by omega, Lib.hid rfl, by first | exact hL5 | exact Lib.hid (⟨hL5.out.1.drewN _, hL5.out.2.drewN _⟩)⟩
            case round =>
              obtain ⟨t', y', rfl, rfl, hy, ht1000, hsum, hL6⟩ := hrel
              by_cases hy0 : y' = 0
              · have hyb : ((y' : Int) != 0) = false := by rw [hy0]; rfl
                have hte : Hid (countT d 7 (k + 1) = t') := Lib.hid (by have h1 := hsum.out; rw [hy0] at h1; have h0 : pop 0 = 0 := rfl; rw [HT0.out]; omega)
                have hle : t' ≤ 3 := by rw [← hte.out]; exact hLE.out
                have hgt : decide (3 < (t' : Int)) = false := decide_eq_false (by omega)
                have hgt2 : decide (3 < t') = false := decide_eq_false (by omega)
                go_wp2
                go_roundw
                case rel => exact ⟨k + 1, by omega, by rw [hte.out], by go_num, hL6⟩
                case measure => simp [intOf]; omega
              · have hyb : ((y' : Int) != 0) = true := bne_iff_ne.2 (by omega)
                have hand : bits .and .u8 (y' : Int) 1 = ((y' % 2 : Nat) : Int) := by
                  have := u8_and_nat y' 1 hy (by omega)
                  rw [Nat.and_one_is_mod] at this
                  exact this
                obtain ⟨z, hz⟩ : ∃ z, z = y' % 2 := ⟨_, rfl⟩
                rw [← hz] at hand
                have hz2 : z ≤ 1 := by omega
                obtain ⟨v, hv⟩ : ∃ v, v = y' / 2 := ⟨_, rfl⟩
                have hve : (y' : Int) / 2 = (v : Int) := by omega
                have hph : Hid (pop y' = z + pop v) := Lib.hid (by rw [pop_half y' hy, ← hz, ← hv])
                have hvlt : v < y' := by omega
                have ht999 : t' ≤ 999 := by
                  have h1 := hsum.out
                  have h2 : pop x ≤ 8 := by unfold pop; omega
                  omega
                clear hz hv
                go_wp2
                go_roundw
                case rel => exact ⟨t' + z, v, by go_num, rfl, by omega, by omega, Lib.hid (by have h1 := hsum.out; have h2 := hph.out; omega), hL6⟩
                case measure => simp [intOf]; omega
          · have hmb : ((k : Int) % 7 == 0) = false := beq_eq_false_iff_ne.2 (by omega)
            have HT0 : Hid (countT d 7 (k + 1) = T + pop x) := Lib.hid (by rw [HTS.out, if_neg hm0])
            clear HTS hm0
            go_wp2
            go_quiet (fail)
            go_wp2
            go_loopw [13, 15] (fun t y wr => ∃ (t' y' : Nat), t = .int .i64 (t' : Int) ∧ y = .int .u8 (y' : Int) ∧ y' < 256 ∧ t' ≤ 1000 ∧ Hid (t' + pop y' = T + pop x) ∧ Hid (LawN w wr c bb pb (M.readM 0))) (fun _ y _ => (intOf y).toNat)
            case atStart => exact ⟨T, x, rfl, rfl, hx256, by omega, Lib.hid rfl, by first | exact hL5 | exact Lib.hid (⟨hL5.out.1.drewN _, hL5.out.2.drewN _⟩)⟩
            case round =>
              obtain ⟨t', y', rfl, rfl, hy, ht1000, hsum, hL6⟩ := hrel
              by_cases hy0 : y' = 0
              · have hyb : ((y' : Int) != 0) = false := by rw [hy0]; rfl
                have hte : Hid (countT d 7 (k + 1) = t') := Lib.hid (by have h1 := hsum.out; rw [hy0] at h1; have h0 : pop 0 = 0 := rfl; rw [HT0.out]; omega)
                have hle : t' ≤ 3 := by rw [← hte.out]; exact hLE.out
                have hgt : decide (3 < (t' : Int)) = false := decide_eq_false (by omega)
                have hgt2 : decide (3 < t') = false := decide_eq_false (by omega)
                go_wp2
                go_roundw
                case rel => exact ⟨k + 1, by omega, by rw [hte.out], by go_num, hL6⟩
                case measure => simp [intOf]; omega
              · have hyb : ((y' : Int) != 0) = true := bne_iff_ne.2 (by omega)
                have hand : bits .and .u8 (y' : Int) 1 = ((y' % 2 : Nat) : Int) := by
                  have := u8_and_nat y' 1 hy (by omega)
                  rw [Nat.and_one_is_mod] at this
                  exact this
                obtain ⟨z, hz⟩ : ∃ z, z = y' % 2 := ⟨_, rfl⟩
                rw [← hz] at hand
                have hz2 : z ≤ 1 := by omega
                obtain ⟨v, hv⟩ : ∃ v, v = y' / 2 := ⟨_, rfl⟩
                have hve : (y' : Int) / 2 = (v : Int) := by omega
                have hph : Hid (pop y' = z + pop v) := Lib.hid (by rw [pop_half y' hy, ← hz, ← hv])
                have hvlt : v < y' := by omega
                have ht999 : t' ≤ 999 := by
                  have h1 := hsum.out
                  have h2 : pop x ≤ 8 := by unfold pop; omega
                  omega
                clear hz hv
                go_wp2
                go_roundw
                case rel => exact ⟨t' + z, v, by go_num, rfl, by omega, by omega, Lib.hid (by have h1 := hsum.out; have h2 := hph.out; omega), hL6⟩
                case measure => simp [intOf]; omega
        · have hd2 : decide ((k : Int) < 32) = false := decide_eq_false (by omega)
          go_wp2
          go_roundw
          case rel => exact ⟨q + 1, M.readM 0, by omega, by go_num, Lib.hid hN.out.read, hL5⟩
          case measure => simp [intOf]; omega
    · have hd : decide ((q : Int) < 5) = false := decide_eq_false (by omega)
      go_wp2_with (first | (go_at_call 25; ((with_reducible refine (noise_set c bb pb _ si 0 7 w _ hL.out HB.out).mono ?_); rintro e w5 ⟨rfl, hc5, hu5⟩; have HC5 := Lib.hid hc5; have HU5 := Lib.hid hu5; clear hc5 hu5)) | (go_at_call 17; ((with_reducible refine (noise_last c bb pb M want ws HW.out.1 seed 3 7 (q + 1) si 7 w _ HC5.out HU5.out HB.out hN.out (by omega)).mono ?_); rintro e w6 ⟨rfl, u6⟩; have U6 := Lib.hid u6; clear u6)))
      go_ret
      exact ⟨rfl, U6.out.below (fun _ _ h => h)⟩

set_option maxRecDepth 100000 in
set_option maxHeartbeats 3200000 in
theorem noise_phi (si : Int) (mi pi : Int) (ha : 1 ≤ mi) (hc : mi ≤ 64) (hb : 32 < pi) (w : World) :
    Calls Try.prog 5 #[.int .i64 si, .int .i64 mi, .int .i64 pi] w fun e w' => e = .returned (.bool true) ∧ Below w.heap.size w w' := by
  have b1 : decide (mi < 1) = false := decide_eq_false (by omega)
  have b2 : decide (64 < mi) = false := decide_eq_false (by omega)
  have b3 : decide (pi < 1) = false := decide_eq_false (by omega)
  have b4 : decide (32 < pi) = true := decide_eq_true hb
  clear ha hb hc
  obtain ⟨seed, hseed, hseed2⟩ : ∃ seed : Nat, IntKind.u64.wrap si = (seed : Int) ∧ seed < 18446744073709551616 := ⟨(IntKind.u64.wrap si).toNat, by rw [IntKind.wrap_u64]; omega, by rw [IntKind.wrap_u64]; omega⟩
  have HSE := Lib.hid hseed
  have HS2 := Lib.hid hseed2
  clear hseed hseed2
  go_enter Try.func5, Try.ntmps5
  go_wp2_with (first | (go_at_call 10; refine (speaks_any _).mono ?_; rintro e w0 ⟨rfl, u0⟩; have U0 := Lib.hid u0; clear u0) | (go_at_call 11; refine (new_at 1 4 32 1 4 32 rfl rfl rfl _ (by omega) (by omega) (by omega) (by omega) (by omega) (by omega) (by omega)).mono ?_; rintro e w1 ⟨c, bb, pb, rfl, h1, u1, hB⟩; have H1 := Lib.hid h1; have U1 := Lib.hid (U0.out.trans u1); have HB : Hid (∀ k, Own c bb pb 1 k → w.heap.size ≤ k) := Lib.hid (fun k hk => Nat.le_trans U0.out.size (hB k hk)); clear h1 u1 hB))
  obtain ⟨ws, hws⟩ : ∃ ws, ws = (⟨#[97, 98, 99, 100, 101, 102, 103, 104, 105, 106, 107, 108, 109, 110, 111, 112, 113, 114, 115, 116, 117, 118, 119, 120, 121, 122, 48, 49, 50, 51, 52, 53]⟩ : ByteArray) := ⟨_, rfl⟩
  obtain ⟨want, hwant⟩ : ∃ want : List UInt8, want = [97, 98, 99, 100, 101, 102, 103, 104, 105, 106, 107, 108, 109, 110, 111, 112, 113, 114, 115, 116, 117, 118, 119, 120, 121, 122, 48, 49, 50, 51, 52, 53] := ⟨_, rfl⟩
  have HW : Hid (ws = ⟨want.toArray⟩ ∧ want.length = 32 ∧ ws.size = 32) := Lib.hid (by rw [hws, hwant]; exact ⟨rfl, rfl, rfl⟩)
  rw [← hws]
  clear hws hwant
  go_wp2_with (first | (go_at_call 15; ((with_reducible refine (noise_first c bb pb want ws HW.out.1 HW.out.2.1 w _ H1.out U1.out HB.out).mono ?_); rintro e w2 ⟨rfl, h2⟩; have HL2 := Lib.hid h2; clear h2)) | (go_at_call 25; ((with_reducible refine (noise_set c bb pb _ si 3 7 w _ HL2.out HB.out).mono ?_); rintro e w3 ⟨rfl, h3⟩; have HL3 := Lib.hid h3; clear h3)))
  clear HL2 H1 U1 U0
  go_loopw [10] (fun i wr => ∃ (q : Nat) (M : Ch), q ≤ 5 ∧ i = .int .i64 (q : Int) ∧ Hid (NSt M want seed 3 7 (q + 1)) ∧ Hid (LawN w wr c bb pb M)) (fun i _ => 5 - (intOf i).toNat)
  case atStart => exact ⟨0, _, Nat.zero_le _, rfl, Lib.hid (noise_st want seed 3 7 si 3 7 HSE.out rfl (by omega) rfl), HL3⟩
  case round =>
    obtain ⟨q, M, hq, rfl, hN, hL⟩ := hrel
    by_cases hlt : q < 5
    · have hd : decide ((q : Int) < 5) = true := decide_eq_true (by omega)
      go_wp2_with (first | (go_at_call 17; ((with_reducible refine (noise_read c bb pb M want ws HW.out.1 HW.out.2.1 seed 3 7 (q + 1) w _ hL.out HB.out hN.out (by omega) HS2.out (by omega) (by omega) (by omega) (by omega)).mono ?_); rintro e w4 ⟨s, rfl, hnear, h4⟩; have HNE := Lib.hid hnear; have HL4 := Lib.hid h4; have hsz : ((s.size : Int) != 32) = false := (by rw [hnear.1]; rfl); clear h4 hnear)))
      obtain ⟨d, hdd⟩ : ∃ d : Nat → Nat, d = fun i => byteN s i ^^^ byteN ws i := ⟨_, rfl⟩
      have hsz2 : Hid (s.size = 32) := Lib.hid HNE.out.1
      have HCT : Hid (∀ k, k ≤ 32 → countT d 7 k ≤ 3) := Lib.hid (by rw [hdd]; exact HNE.out.2)
      have HDD := Lib.hid hdd
      clear hdd
      go_loopw [13, 14, 15] (fun t i _ wr => ∃ k : Nat, k ≤ 32 ∧ t = .int .i64 ((countT d 7 k : Nat) : Int) ∧ i = .int .i64 (k : Int) ∧ Hid (LawN w wr c bb pb (M.readM 0))) (fun _ i _ _ => 32 - (intOf i).toNat)
      case atStart => exact ⟨0, Nat.zero_le _, rfl, rfl, HL4⟩
      case round =>
        obtain ⟨k, hk, rfl, rfl, hL5⟩ := hrel
        by_cases hlt2 : k < 32
        · have hd2 : decide ((k : Int) < 32) = true := decide_eq_true (by omega)
          have hks : k < s.size := by rw [hsz2.out]; exact hlt2
          have hkw : k < ws.size := by rw [HW.out.2.2]; exact hlt2
          obtain ⟨x, hx⟩ : ∃ x, x = d k := ⟨_, rfl⟩
          have hxe : bits .xor .u8 (s[k].toNat : Int) (ws[k].toNat : Int) = (x : Int) := by
            rw [hx, HDD.out]
            show _ = ((byteN s k ^^^ byteN ws k : Nat) : Int)
            rw [← byte_at s k hks, ← byte_at ws k hkw]
            exact u8_xor_nat _ _ (UInt8.toNat_lt _) (UInt8.toNat_lt _)
          have hx256 : x < 256 := by
            rw [hx, HDD.out]
            exact Nat.xor_lt_two_pow (n := 8) (UInt8.toNat_lt _) (UInt8.toNat_lt _)
          obtain ⟨T, hT⟩ : ∃ T, T = countT d 7 k := ⟨_, rfl⟩
          have HTS : Hid (countT d 7 (k + 1) = (if k % 7 = 0 then 0 else T) + pop x) := Lib.hid (by rw [countT, ← hT, ← hx])
          have hTb : T ≤ 64 := by have := HCT.out k hk; omega
          rw [← hT]
          clear hx hT
          have hLE : Hid (countT d 7 (k + 1) ≤ 3) := Lib.hid (HCT.out (k + 1) (by omega))
          by_cases hm0 : k % 7 = 0
          · have hmb : ((k : Int) % 7 == 0) = true := beq_iff_eq.2 (by omega)
            have HT0 : Hid (countT d 7 (k + 1) = 0 + pop x) := Lib.hid (by rw [HTS.out, if_pos hm0])
            clear HTS hm0
            go_wp2
            go_quiet (fail)
            go_wp2
            go_loopw [13, 15] (fun t y wr => ∃ (t' y' : Nat), t = .int .i64 (t' : Int) ∧ y = .int .u8 (y' : Int) ∧ y' < 256 ∧ t' ≤ 1000 ∧ Hid (t' + pop y' = 0 + pop x) ∧ Hid (LawN w wr c bb pb (M.readM 0))) (fun _ y _ => (intOf y).toNat)
            case atStart => exact ⟨0, x, rfl, rfl, hx256, by omega, Lib.hid rfl, by first | exact hL5 | exact Lib.hid (⟨hL5.out.1.drewN _, hL5.out.2.drewN _⟩)⟩
            case round =>
              obtain ⟨t', y', rfl, rfl, hy, ht1000, hsum, hL6⟩ := hrel
              by_cases hy0 : y' = 0
              · have hyb : ((y' : Int) != 0) = false := by rw [hy0]; rfl
                have hte : Hid (countT d 7 (k + 1) = t') := Lib.hid (by have h1 := hsum.out; rw [hy0] at h1; have h0 : pop 0 = 0 := rfl; rw [HT0.out]; omega)
                have hle : t' ≤ 3 := by rw [← hte.out]; exact hLE.out
                have hgt : decide (3 < (t' : Int)) = false := decide_eq_false (by omega)
                have hgt2 : decide (3 < t') = false := decide_eq_false (by omega)
                go_wp2
                go_roundw
                case rel => exact ⟨k + 1, by omega, by rw [hte.out], by go_num, hL6⟩
                case measure => simp [intOf]; omega
              · have hyb : ((y' : Int) != 0) = true := bne_iff_ne.2 (by omega)
                have hand : bits .and .u8 (y' : Int) 1 = ((y' % 2 : Nat) : Int) := by
                  have := u8_and_nat y' 1 hy (by omega)
                  rw [Nat.and_one_is_mod] at this
                  exact this
                obtain ⟨z, hz⟩ : ∃ z, z = y' % 2 := ⟨_, rfl⟩
                rw [← hz] at hand
                have hz2 : z ≤ 1 := by omega
                obtain ⟨v, hv⟩ : ∃ v, v = y' / 2 := ⟨_, rfl⟩
                have hve : (y' : Int) / 2 = (v : Int) := by omega
                have hph : Hid (pop y' = z + pop v) := Lib.hid (by rw [pop_half y' hy, ← hz, ← hv])
                have hvlt : v < y' := by omega
                have ht999 : t' ≤ 999 := by
                  have h1 := hsum.out
                  have h2 : pop x ≤ 8 := by unfold pop; omega
                  omega
                clear hz hv
                go_wp2
                go_roundw
                case rel => exact ⟨t' + z, v, by go_num, rfl, by omega, by omega, Lib.hid (by have h1 := hsum.out; have h2 := hph.out; omega), hL6⟩
                case measure => simp [intOf]; omega
          · have hmb : ((k : Int) % 7 == 0) = false := beq_eq_false_iff_ne.2 (by omega)
            have HT0 : Hid (countT d 7 (k + 1) = T + pop x) := Lib.hid (by rw [HTS.out, if_neg hm0])
            clear HTS hm0
            go_wp2
            go_quiet (fail)
            go_wp2
            go_loopw [13, 15] (fun t y wr => ∃ (t' y' : Nat), t = .int .i64 (t' : Int) ∧ y = .int .u8 (y' : Int) ∧ y' < 256 ∧ t' ≤ 1000 ∧ Hid (t' + pop y' = T + pop x) ∧ Hid (LawN w wr c bb pb (M.readM 0))) (fun _ y _ => (intOf y).toNat)
            case atStart => exact ⟨T, x, rfl, rfl, hx256, by omega, Lib.hid rfl, by first | exact hL5 | exact Lib.hid (⟨hL5.out.1.drewN _, hL5.out.2.drewN _⟩)⟩
            case round =>
              obtain ⟨t', y', rfl, rfl, hy, ht1000, hsum, hL6⟩ := hrel
              by_cases hy0 : y' = 0
              · have hyb : ((y' : Int) != 0) = false := by rw [hy0]; rfl
                have hte : Hid (countT d 7 (k + 1) = t') := Lib.hid (by have h1 := hsum.out; rw [hy0] at h1; have h0 : pop 0 = 0 := rfl; rw [HT0.out]; omega)
                have hle : t' ≤ 3 := by rw [← hte.out]; exact hLE.out
                have hgt : decide (3 < (t' : Int)) = false := decide_eq_false (by omega)
                have hgt2 : decide (3 < t') = false := decide_eq_false (by omega)
                go_wp2
                go_roundw
                case rel => exact ⟨k + 1, by omega, by rw [hte.out], by go_num, hL6⟩
                case measure => simp [intOf]; omega
              · have hyb : ((y' : Int) != 0) = true := bne_iff_ne.2 (by omega)
                have hand : bits .and .u8 (y' : Int) 1 = ((y' % 2 : Nat) : Int) := by
                  have := u8_and_nat y' 1 hy (by omega)
                  rw [Nat.and_one_is_mod] at this
                  exact this
                obtain ⟨z, hz⟩ : ∃ z, z = y' % 2 := ⟨_, rfl⟩
                rw [← hz] at hand
                have hz2 : z ≤ 1 := by omega
                obtain ⟨v, hv⟩ : ∃ v, v = y' / 2 := ⟨_, rfl⟩
                have hve : (y' : Int) / 2 = (v : Int) := by omega
                have hph : Hid (pop y' = z + pop v) := Lib.hid (by rw [pop_half y' hy, ← hz, ← hv])
                have hvlt : v < y' := by omega
                have ht999 : t' ≤ 999 := by
                  have h1 := hsum.out
                  have h2 : pop x ≤ 8 := by unfold pop; omega
                  omega
                clear hz hv
                go_wp2
                go_roundw
                case rel => exact ⟨t' + z, v, by go_num, rfl, by omega, by omega, Lib.hid (by have h1 := hsum.out; have h2 := hph.out; omega), hL6⟩
                case measure => simp [intOf]; omega
        · have hd2 : decide ((k : Int) < 32) = false := decide_eq_false (by omega)
          go_wp2
          go_roundw
          case rel => exact ⟨q + 1, M.readM 0, by omega, by go_num, Lib.hid hN.out.read, hL5⟩
          case measure => simp [intOf]; omega
    · have hd : decide ((q : Int) < 5) = false := decide_eq_false (by omega)
      go_wp2_with (first | (go_at_call 25; ((with_reducible refine (noise_set c bb pb _ si 0 7 w _ hL.out HB.out).mono ?_); rintro e w5 ⟨rfl, hc5, hu5⟩; have HC5 := Lib.hid hc5; have HU5 := Lib.hid hu5; clear hc5 hu5)) | (go_at_call 17; ((with_reducible refine (noise_last c bb pb M want ws HW.out.1 seed 3 7 (q + 1) si 7 w _ HC5.out HU5.out HB.out hN.out (by omega)).mono ?_); rintro e w6 ⟨rfl, u6⟩; have U6 := Lib.hid u6; clear u6)))
      go_ret
      exact ⟨rfl, U6.out.below (fun _ _ h => h)⟩

theorem nandNoise_walk (a b d : Int) (w : World) (_wa : (Lit.int .i64 a).wf = true) (_wb : (Lit.int .i64 b).wf = true) (_wd : (Lit.int .i64 d).wf = true) :
    Calls Try.prog 5 #[.int .i64 a, .int .i64 b, .int .i64 d] w fun e w' => e = .returned (.bool true) ∧ Below w.heap.size w w' := by
  by_cases h1 : b < 1
  · exact noise_lo a b d h1 w
  · by_cases h2 : 64 < b
    · exact noise_hi a b d h2 w
    · by_cases h3 : d < 1
      · exact noise_plo a b d (by omega) (by omega) h3 w
      · by_cases h4 : 32 < d
        · exact noise_phi a b d (by omega) (by omega) h4 w
        · obtain ⟨most, rfl⟩ : ∃ most : Nat, b = (most : Int) := ⟨b.toNat, by omega⟩
          obtain ⟨pc, rfl⟩ : ∃ pc : Nat, d = (pc : Int) := ⟨d.toNat, by omega⟩
          exact noise_ok a most pc (by omega) (by omega) (by omega) (by omega) w
end Go.Proofs.Ytibkdoomnidndaa
