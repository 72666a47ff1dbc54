/- The walk of the statement on two digests, for any arguments. -/
import Derived.Test.YtolaofoffakddaaDoorB17
namespace Go.Proofs.YtolaofoffakddaaDoor
open Go.RowKit

theorem Bs.form {w : World} {v : Value} {n : Nat} {f : Nat → Nat} (h : Bs w v n f) : ∃ oa c, v = .slice oa n c := by
  rcases h with ⟨h, h0⟩ | ⟨a, c, h, _⟩
  · subst h0; exact ⟨none, 0, h⟩
  · exact ⟨some a, c, h⟩
theorem two_walk (n0 : Nat) (v0 : Value) (f0 : Nat → Nat) (n1 : Nat) (v1 : Value) (f1 : Nat → Nat) (s : ByteArray) (w : World) (hB0 : Bs w v0 n0 f0) (hf0 : ∀ i, i < n0 → f0 i < 256) (hn0 : n0 ≤ 140737488351232) (hB1 : Bs w v1 n1 f1) (hf1 : ∀ i, i < n1 → f1 i < 256) (hn1 : n1 ≤ 140737488351232) (hg : GlobB w) :
    Calls Tryd.prog 5 #[v0, v1, .string s] w fun e w' => e = .returned (.bool true) ∧ Below w.heap.size w w' := by
  obtain ⟨oa, ca, rfl⟩ := hB0.form
  obtain ⟨ob, cb, rfl⟩ := hB1.form
  exact two_some oa ob n0 n1 ca cb (fun i => if i < n0 then f0 i else 0) (fun i => if i < n1 then f1 i else 0) s
    (fun i => by split; exact hf0 i (by assumption); decide) (fun i => by split; exact hf1 i (by assumption); decide) hn0 hn1 w hg
    (hB0.congr (fun i hi => if_pos hi)) (hB1.congr (fun i hi => if_pos hi))

end Go.Proofs.YtolaofoffakddaaDoor
