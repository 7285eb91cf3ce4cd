/- KeyNames, whole. -/
import Derived.Test.YtbnnkpnhfjkdpaaKqb
import Derived.Test.YtbnnkpnhfjkdpaaKqc
import Derived.Test.YtbnnkpnhfjkdpaaKqd
import Derived.Test.YtbnnkpnhfjkdpaaKqe
namespace Go.Proofs.Ytbnnkpnhfjkdpaa
open Go.RowKit

theorem keyNames_upd (n : Int) (s0 s1 : ByteArray) (p : Int) (w : World) (hs0 : s0.size ≤ 140737488351232) (hs1 : s1.size ≤ 140737488351232) :
    Calls Try.prog 6 #[.int .i64 n, .agg #[.string s0, .string s1], .int .i64 p] w fun e w' => e = .returned (.bool true) ∧ Upd noBlock w w' := by
  obtain ⟨l0, rfl⟩ : ∃ l : List UInt8, s0 = ⟨l.toArray⟩ := ⟨s0.data.toList, rfl⟩
  obtain ⟨l1, rfl⟩ : ∃ l : List UInt8, s1 = ⟨l.toArray⟩ := ⟨s1.data.toList, rfl⟩
  have hl0 : l0.length ≤ maxLen := Nat.le_trans hs0 (by decide)
  have hl1 : l1.length ≤ maxLen := Nat.le_trans hs1 (by decide)
  obtain ⟨_, _, _, _, _, _, _, _, F5⟩ := nf_any 5 6 7 rfl l0 l1 hl0 hl1 (by decide) (by decide) (by decide) (by decide)
  by_cases h0 : n < 0
  · exact keyNames_o1 n p l0 l1 _ _ _ _ _ _ _ _ _ _ w h0 F5
  by_cases h1 : 1099511627776 ≤ n
  · exact keyNames_o2 n p l0 l1 _ _ _ _ _ _ _ _ _ _ w h0 h1 F5
  by_cases h2 : p < 0
  · exact keyNames_o3 n p l0 l1 _ _ _ _ _ _ _ _ _ _ w h0 h1 h2 F5
  by_cases h3 : 4294967296 ≤ p
  · exact keyNames_o4 n p l0 l1 _ _ _ _ _ _ _ _ _ _ w h0 h1 h2 h3 F5
  obtain ⟨_, _, _, _, _, _, _, _, F⟩ := nf_any n (n + 1) p rfl l0 l1 hl0 hl1 (by omega) (by omega) (by omega) (by omega)
  exact keyNames_in n p l0 l1 _ _ _ _ _ _ _ _ _ _ w h0 (by omega) h2 (by omega) F
theorem keyNames_walk (n : Int) (s0 s1 : ByteArray) (p : Int) (w : World) (_ : (Lit.int IntKind.i64 n).wf = true) (hs0 : s0.size ≤ 140737488351232) (hs1 : s1.size ≤ 140737488351232) (_ : (Lit.int IntKind.i64 p).wf = true) :
    Calls Try.prog 6 #[.int .i64 n, .agg #[.string s0, .string s1], .int .i64 p] w fun e w' => e = .returned (.bool true) ∧ Below w.heap.size w w' :=
  (keyNames_upd n s0 s1 p w hs0 hs1).mono fun _ _ ⟨h, hu⟩ => ⟨h, hu.below (fun _ _ h => h)⟩
end Go.Proofs.Ytbnnkpnhfjkdpaa
