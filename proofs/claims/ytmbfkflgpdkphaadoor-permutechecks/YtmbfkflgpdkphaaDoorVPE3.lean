/- Lists of chunks: copied by append. -/
import Derived.Test.YtmbfkflgpdkphaaDoorVPE2
import Derived.Laws.AppendOwnNone
namespace Go.Proofs.YtmbfkflgpdkphaaDoor
open Go.RowKit
/-- A chunk's cells, one behind the other. -/
def chk12 (At Nx La : Nat → Nat) (n : Nat) : List Value := (List.range (n * 12)).map (fun t => Value.int .u64 ((limb (t % 4) (if t % 12 < 4 then At (t / 12) else if t % 12 < 8 then Nx (t / 12) else La (t / 12)) : Nat) : Int))
theorem chk12_len (At Nx La : Nat → Nat) (n : Nat) : (chk12 At Nx La n).length = n * 12 := by simp [chk12]
theorem chk12_get (At Nx La : Nat → Nat) (n i j : Nat) (hi : i < n) (hj : j < 12) : (chk12 At Nx La n)[i * 12 + j]? = some (.int .u64 ((limb (j % 4) (if j < 4 then At i else if j < 8 then Nx i else La i) : Nat) : Int)) := by
  unfold chk12
  rw [List.getElem?_map, List.getElem?_range (by omega), Option.map_some]
  rw [show (i * 12 + j) % 4 = j % 4 by omega, show (i * 12 + j) % 12 = j by omega, show (i * 12 + j) / 12 = i by omega]
theorem chunkInfo : ∃ i : TypeInfo, Tryd.prog.info? 62 = some i ∧ i.zero = some (.agg #[.int .u64 0, .int .u64 0, .int .u64 0, .int .u64 0, .int .u64 0, .int .u64 0, .int .u64 0, .int .u64 0, .int .u64 0, .int .u64 0, .int .u64 0, .int .u64 0]) ∧ i.size = 12 ∧ i.bytes = 96 := by
  have h : (Tryd.prog.info? 62).map (fun i => (i.zero, i.size, i.bytes)) = some (some (.agg #[.int .u64 0, .int .u64 0, .int .u64 0, .int .u64 0, .int .u64 0, .int .u64 0, .int .u64 0, .int .u64 0, .int .u64 0, .int .u64 0, .int .u64 0, .int .u64 0]), 12, 96) := by kernel_rfl
  obtain ⟨i, hi, he⟩ := Option.map_eq_some_iff.mp h
  simp only [Prod.mk.injEq] at he
  exact ⟨i, hi, he.1, he.2.1, he.2.2⟩
/-- A list of chunks that is handed in. -/
def Zn (w : World) (v : Value) (m : Nat) (At Nx La : Nat → Nat) : Prop :=
  (v = .slice none 0 0 ∧ m = 0) ∨ ∃ b o c, v = .slice (some ⟨b, o, none⟩) m c ∧ m ≤ c ∧ c ≤ maxLen ∧ CelS w b o m At Nx La
theorem Zn.zs {w : World} {v : Value} {m : Nat} {At Nx La : Nat → Nat} (h : Zn w v m At Nx La) : Zs w v m At Nx La := by
  rcases h with ⟨rfl, rfl⟩ | ⟨b, o, c, h1, h2, _, h3⟩
  · exact Or.inl ⟨rfl, _, _, rfl⟩
  · exact Or.inr ⟨b, o, c, h1, h2, h3⟩
theorem Zn.below {w w' : World} {v : Value} {m : Nat} {At Nx La : Nat → Nat} (h : Zn w v m At Nx La) (hb : Below w.heap.size w w') : Zn w' v m At Nx La := by
  rcases h with h | ⟨b, o, c, h1, h2, h4, h3⟩
  · exact Or.inl h
  · exact Or.inr ⟨b, o, c, h1, h2, h4, h3.below hb h3.1⟩
theorem Zn.shape {w : World} {v : Value} {m : Nat} {At Nx La : Nat → Nat} (h : Zn w v m At Nx La) : ∃ o c, v = .slice o m c := by
  rcases h with ⟨rfl, rfl⟩ | ⟨b, o, c, rfl, _⟩
  · exact ⟨_, _, rfl⟩
  · exact ⟨_, _, rfl⟩
theorem own_zs {w : World} {base n : Nat} {v : Value} {At Nx La : Nat → Nat} (h : w.ownsRow base 62 12 v n (chk12 At Nx La n)) : Zs w v n At Nx La := by
  obtain ⟨_, h⟩ := h
  rcases h with ⟨rfl, h0⟩ | ⟨g, c, cur, rfl, hb, hg, hc, hm, hs, ht⟩
  · exact Or.inl ⟨h0, _, _, rfl⟩
  · have hl : g < w.heap.size := (Array.getElem?_eq_some_iff.1 hg).1
    have key : ∀ i, i < n → ∀ j, j < 12 → w.cell? ⟨g, i * 12 + j, none⟩ = some (.int .u64 ((limb (j % 4) (if j < 4 then At i else if j < 8 then Nx i else La i) : Nat) : Int)) := fun i hi j hj => by
      have h1 : cur[i * 12 + j]? = (chk12 At Nx La n)[i * 12 + j]? := by rw [← ht, List.getElem?_take_of_lt (by omega), Array.getElem?_toList]
      rw [chk12_get At Nx La n i j hi hj] at h1
      simp [World.cell?, hg, h1]
    refine Or.inr ⟨g, 0, c, rfl, hc, hl, fun i hi => ⟨fun j hj => ?_, fun j hj => ?_, fun j hj => ?_⟩⟩
    · have k := key i hi j (by omega)
      rw [if_pos (by omega), Nat.mod_eq_of_lt hj] at k
      rw [Nat.zero_add]; exact k
    · have k := key i hi (4 + j) (by omega)
      rw [if_neg (by omega), if_pos (by omega), show (4 + j) % 4 = j by omega, ← Nat.add_assoc] at k
      rw [Nat.zero_add]; exact k
    · have k := key i hi (8 + j) (by omega)
      rw [if_neg (by omega), if_neg (by omega), show (8 + j) % 4 = j by omega, ← Nat.add_assoc] at k
      rw [Nat.zero_add]; exact k
/-- append of chunks to an empty list of one's own. -/
theorem wp_appZ (w : World) {o : Oper} {a : Act} {K : Act → World → Prop} {Q : Exit → Act → World → Prop} (s x : Operand) (ho : o.op = .call { callee := .builtin .append, args := #[s, x], argTypes := #[33, 33] })
    (base : Nat) (v z : Value) (m : Nat) (At Nx La : Nat → Nat) (hs : a.eval s = v) (hown : w.ownsRow base 62 12 v 0 []) (hx : a.eval x = z) (hz : Zn w z m At Nx La) (hm : m ≤ 1000) (hbase : base ≤ w.heap.size)
    (h : ∀ v' w', Zs w' v' m At Nx La → Below base w w' → K (a.put o.dst v') w') : o.wp Tryd.prog a w K Q := by
  obtain ⟨i0, hi, hz0, hz1, hz2⟩ := chunkInfo
  rcases hz with ⟨rfl, rfl⟩ | ⟨b, oo, c, rfl, hmc, hcm, hb, hcs⟩
  · have hrun := run_append_owned_none (P := Tryd.prog) (w := w) base 33 o.type 62 i0 12 Tryd.underlying33 hi v 0 [] hown
    have hv : Zs w v 0 At Nx La := own_zs (base := base) hown
    unfold Oper.wp
    simp [execOp, ho, resolve, invoke, builtin, hs, hx, hrun, Result.andThen]
    exact h _ _ hv (Below.refl _ _)
  · refine wp_append_own w s x 33 ho base 62 i0 (.agg #[.int .u64 0, .int .u64 0, .int .u64 0, .int .u64 0, .int .u64 0, .int .u64 0, .int .u64 0, .int .u64 0, .int .u64 0, .int .u64 0, .int .u64 0, .int .u64 0]) 12 96 Tryd.underlying33 hi hz0 hz1 hz2 rfl (by decide) v 0 [] hs hown ⟨b, oo, none⟩ m c (chk12 At Nx La m) hx (chk12_len _ _ _ _) ?_ ?_ (by rw [Nat.zero_add]; exact Nat.le_trans hmc hcm) (by omega) hbase ?_
    · intro j u hj
      have hjn : j < m * 12 := by
        rcases Nat.lt_or_ge j (m * 12) with h | h
        · exact h
        · rw [List.getElem?_eq_none (by rw [chk12_len]; exact h)] at hj; cases hj
      have e := chk12_get At Nx La m (j / 12) (j % 12) (by omega) (by omega)
      rw [show j / 12 * 12 + j % 12 = j from by omega, hj] at e
      cases e
      have hadd : (⟨b, oo, none⟩ : Addr).add j = ⟨b, oo + j / 12 * 12 + j % 12, none⟩ := by
        have e2 : oo + j / 12 * 12 + j % 12 = oo + j := by omega
        rw [e2]; unfold Addr.add; split <;> simp_all
      rw [hadd]
      obtain ⟨h1, h2, h3⟩ := hcs (j / 12) (by omega)
      by_cases c1 : j % 12 < 4
      · rw [if_pos c1, Nat.mod_eq_of_lt c1]; exact h1 _ c1
      · by_cases c2 : j % 12 < 8
        · rw [if_neg c1, if_pos c2]
          have k := h2 (j % 12 - 4) (by omega)
          rw [show oo + j / 12 * 12 + 4 + (j % 12 - 4) = oo + j / 12 * 12 + j % 12 by omega] at k
          rw [k, show j % 12 % 4 = j % 12 - 4 by omega]
        · rw [if_neg c1, if_neg c2]
          have k := h3 (j % 12 - 8) (by omega)
          rw [show oo + j / 12 * 12 + 8 + (j % 12 - 8) = oo + j / 12 * 12 + j % 12 by omega] at k
          rw [k, show j % 12 % 4 = j % 12 - 8 by omega]
    · intro u hu; unfold chk12 at hu; obtain ⟨i, _, rfl⟩ := List.mem_map.mp hu; rfl
    · intro v' w' hown' hgrow _
      rw [Nat.zero_add, List.nil_append] at hown'
      exact h v' w' (own_zs hown') ((Below.refl base w).grown hgrow hbase (fun j hj => own_block_geE hown hj))
end Go.Proofs.YtmbfkflgpdkphaaDoor
