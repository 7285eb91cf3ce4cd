/- node.Decode of a node's bytes; speaks. -/
import Derived.Test.YthlheamnfjjamaaDoorOi
namespace Go.Proofs.YthlheamnfjjamaaDoor
open Go.RowKit Cm
attribute [local irreducible] beZ valN Cm.shs Cm.nxt Cm.reg Cm.ext

theorem Decode_enc (p x : List UInt8) (seq : Int) (gone last : Bool) (k v : List UInt8) (w : World) (hg : goodN seq gone k v = true) (hl : p.length + x.length ≤ 281474976700000) (hT : Tab w) :
    Calls Tryd.prog 15 #[.string ⟨(p ++ (sealed (rawN seq gone last k v) ++ x)).toArray⟩, .int .i64 (p.length : Int)] w fun e w' => e = .returned (.tuple #[nodeV seq gone last k v, .int .i64 ((p.length : Int) + ((sealed (rawN seq gone last k v)).length : Int)), .int .i64 0]) ∧ Upd noBlock w w' := by
  obtain ⟨_, h2, h3, h4⟩ := goodN_parts hg
  have hrl := raw_length seq gone last k v
  have hsl := sealed_length (rawN seq gone last k v)
  have hR : sealed (rawN seq gone last k v) ++ x = rawN seq gone last k v ++ (slb (ext 0 (rawN seq gone last k v)) ++ x) := by
    show (rawN seq gone last k v ++ slb (ext 0 (rawN seq gone last k v))) ++ x = _
    rw [List.append_assoc]
  have hkl := raw_klen seq gone last k v (slb (ext 0 (rawN seq gone last k v)) ++ x) h3
  have hvl := raw_vlen seq gone last k v (slb (ext 0 (rawN seq gone last k v)) ++ x) h4
  rw [← hR] at hkl hvl
  have hk0 := raw_klen seq gone last k v [] h3
  rw [List.append_nil] at hk0
  obtain ⟨hpo, hpv⟩ := raw_parse seq gone last k v hg
  have hRl : (sealed (rawN seq gone last k v) ++ x).length = (sealed (rawN seq gone last k v)).length + x.length := List.length_append
  have hql : (p ++ (sealed (rawN seq gone last k v) ++ x)).length = p.length + (sealed (rawN seq gone last k v) ++ x).length := List.length_append
  have hS := fun W => sizeOf_any (sealed (rawN seq gone last k v) ++ x) W (by omega)
  have h13 : 13 ≤ (sealed (rawN seq gone last k v) ++ x).length := by omega
  rw [hkl, hvl, if_pos h13, decide_eq_true h13, show 17 + k.length + v.length = (sealed (rawN seq gone last k v)).length by omega] at hS
  have hO := fun W hW => open_yes (rawN seq gone last k v) ⟨(sealed (rawN seq gone last k v)).toArray⟩ W rfl (by show (sealed (rawN seq gone last k v)).length ≤ _; omega) hW
  have hP := fun W => parse_any (rawN seq gone last k v) W (by omega) (by omega)
  rw [hpo, hpv] at hP
  have hHP := fun W => Tryd.strings_HasPrefix ⟨(sealed (rawN seq gone last k v) ++ x).toArray⟩ ⟨#[78]⟩ W
  have hsh : ∃ r, sealed (rawN seq gone last k v) ++ x = 78 :: r := ⟨_, by rw [hR]; exact raw_shape seq gone last k v _⟩
  obtain ⟨r, hr⟩ := hsh
  have hpf : Lib.hasPrefix (⟨(sealed (rawN seq gone last k v) ++ x).toArray⟩ : ByteArray).data.toList (⟨#[78]⟩ : ByteArray).data.toList = true := by
    show Lib.hasPrefix (sealed (rawN seq gone last k v) ++ x) [78] = true
    rw [hr]
    rfl
  rw [hpf] at hHP
  have hemp : (⟨(sealed (rawN seq gone last k v) ++ x).toArray⟩ : ByteArray).toList.isEmpty = false := by rw [emp_str, hr]; rfl
  have h0 : 0 < (⟨(sealed (rawN seq gone last k v) ++ x).toArray⟩ : ByteArray).size := by show 0 < (sealed (rawN seq gone last k v) ++ x).length; omega
  have hm : ((⟨(sealed (rawN seq gone last k v) ++ x).toArray⟩ : ByteArray)[0]'h0).toNat = 78 := by
    have e : (sealed (rawN seq gone last k v) ++ x)[0]? = some 78 := by rw [hr]; rfl
    obtain ⟨_, e'⟩ := List.getElem?_eq_some_iff.1 e
    show ((sealed (rawN seq gone last k v) ++ x)[0]).toNat = 78
    rw [e']; rfl
  have hx : (⟨(p ++ (sealed (rawN seq gone last k v) ++ x)).toArray⟩ : ByteArray).extract p.length (p ++ (sealed (rawN seq gone last k v) ++ x)).length = ⟨(sealed (rawN seq gone last k v) ++ x).toArray⟩ := by
    rw [ext_str, List.drop_left, List.take_of_length_le (by omega)]
  have hxz : (⟨(sealed (rawN seq gone last k v) ++ x).toArray⟩ : ByteArray).extract 0 (sealed (rawN seq gone last k v)).length = ⟨(sealed (rawN seq gone last k v)).toArray⟩ := by
    rw [ext_str, List.drop_zero, Nat.sub_zero, List.take_left]
  have hz1 : (⟨(p ++ (sealed (rawN seq gone last k v) ++ x)).toArray⟩ : ByteArray).size = (p ++ (sealed (rawN seq gone last k v) ++ x)).length := rfl
  have hz2 : (⟨(sealed (rawN seq gone last k v) ++ x).toArray⟩ : ByteArray).size = (sealed (rawN seq gone last k v) ++ x).length := rfl
  exact dec_ok w _ _ hz1 (by omega) (by omega) p.length _ _ (by omega) (by omega) hx hz2 (by omega) (by omega) hemp h0 78 hm rfl hHP _ hS (by omega) (by omega) _ hxz (fun W h => hT.upd (((Upd.refl _ _).alloc _).trans h)) _ hO seq gone last _ _ hP
theorem speaks_node : goodN 1 false [97] [98] = true ∧ (sealed (rawN 1 false true [97] [98])).length = 19 := ⟨by decide, by rw [sealed_length, raw_length]; rfl⟩
set_option maxRecDepth 20000 in
set_option maxHeartbeats 1600000 in
theorem speaks_any (w : World) (hT : Tab w) : Calls Tryd.prog 11 #[] w fun e w' => e = .returned (.bool true) ∧ Upd noBlock w w' := by
  obtain ⟨hg, hl⟩ := speaks_node
  have HE := encodeN_any 1 false true [97] [98] w (by simp [maxLen]) (by simp [maxLen]) hT
  unfold encN at HE
  rw [hg, if_pos rfl] at HE
  have HD := fun W hW => Decode_enc [] [] 1 false true [97] [98] W hg (by simp) hW
  rw [List.nil_append, List.append_nil, hl] at HD
  obtain ⟨q, hq⟩ : ∃ q : ByteArray, ⟨(sealed (rawN 1 false true [97] [98])).toArray⟩ = q := ⟨_, rfl⟩
  have hz : q.size = 19 := by rw [← hq]; exact hl
  rw [hq] at HE HD
  have HT : Hid (∀ W, Upd noBlock w W → Tab W) := fun W h => hT.upd h
  unfold nodeV at HD
  simp only [List.length_nil] at HD
  have HD2 : Hid (∀ W, Tab W → Calls Tryd.prog 15 #[.string q, .int .i64 0] W fun e w' => e = .returned (.tuple #[.agg #[.int .i64 1, .bool false, .bool true, .string ⟨#[97]⟩, .string ⟨#[98]⟩], .int .i64 19, .int .i64 0]) ∧ Upd noBlock W w') := HD
  replace HE := Lib.hid HE
  clear hg hl hq HD hT
  go_enter Tryd.func11, Tryd.ntmps11
  go_wp2_with (first | (go_at_call 12; with_reducible refine HE.out.mono ?_; rintro e w1 ⟨rfl, h⟩; have HX := Lib.hid h; clear h) | (go_at_call 15; with_reducible refine (HD2.out _ (HT.out _ HX.out)).mono ?_; rintro e w2 ⟨rfl, h⟩; have HY := Lib.hid (HX.out.trans h); clear h))
  go_ret
  exact ⟨rfl, HY.out.alloc _⟩
end Go.Proofs.YthlheamnfjjamaaDoor
