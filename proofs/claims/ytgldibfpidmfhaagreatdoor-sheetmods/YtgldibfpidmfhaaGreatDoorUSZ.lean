/- Long lists copied and compared. -/
import Derived.Test.YtgldibfpidmfhaaGreatDoorUL1
import Derived.Test.YtgldibfpidmfhaaGreatDoorUSX
import Derived.Test.YtgldibfpidmfhaaGreatDoorUCX
namespace Go.Proofs.YtgldibfpidmfhaaGreatDoor
open Go.RowKit
set_option maxHeartbeats 2000000 in
theorem copyB_some (n cn a oa : Nat) (f : Nat → Nat) (hn : n ≤ 4398046510976) (w : World) (ha : a < w.heap.size) (hc : ∀ i, i < n → ∀ j, j < 4 → w.cell? ⟨a, oa + i * 4 + j, none⟩ = some (.int .u64 ((limb j (f i) : Nat) : Int))) :
    Calls Tryz.prog 43 #[.slice (some ⟨a, oa, none⟩) n cn] w fun e w' => ∃ v, e = .returned v ∧ w'.ownsRow w.heap.size 50 4 v n (els f n) ∧ Below w.heap.size w w' := by
  obtain ⟨i0, hi, hz0, hz1, hz2⟩ := elemInfo
  have HI := (show Hid _ from hi); have HZ := (show Hid _ from And.intro hz0 (And.intro hz1 hz2)); clear hi hz0 hz1 hz2
  have HC := (show Hid _ from hc); clear hc
  have hown0 : (w.alloc (.cells #[] 50)).ownsRow w.heap.size 50 4 (.slice (some ⟨w.heap.size, 0, none⟩) 0 0) 0 [] :=
    ⟨rfl, Or.inr ⟨w.heap.size, 0, #[], rfl, Nat.le_refl _, new_blockE _ _, Nat.le_refl _, by decide, rfl, rfl⟩⟩
  have HO : Hid ((w.alloc (.cells #[] 50)).ownsRow w.heap.size 50 4 (.slice (some ⟨w.heap.size, 0, none⟩) 0 0) 0 []) := hown0
  clear hown0
  go_enter Tryz.func43, Tryz.ntmps43
  go_wp2_with (first
    | (at_builtin; refine wpList_append_own _ rfl _ _ 41 rfl w.heap.size 50 i0 (.agg #[.int .u64 0, .int .u64 0, .int .u64 0, .int .u64 0]) 4 32 Tryz.underlying41 HI.out HZ.out.1 HZ.out.2.1 HZ.out.2.2 rfl (by decide) _ _ _ rfl HO.out ⟨a, oa, none⟩ n cn (els f n) rfl ?c0 ?c1 ?c2 ?c3 ?c4 ?c5 ?_)
    | go_in)
  case c0 => exact els_len f n
  case c1 =>
    intro j u hj
    have hjn : j < n * 4 := by
      rcases Nat.lt_or_ge j (n * 4) with h | h
      · exact h
      · rw [List.getElem?_eq_none (by rw [els_len]; exact h)] at hj; cases hj
    have e := els_get f n (j / 4) (j % 4) (by omega) (by omega)
    rw [show j / 4 * 4 + j % 4 = j from by omega, hj] at e
    cases e
    have hb : Below w.heap.size w (w.alloc (.cells #[] 50)) := (Below.refl _ _).alloc (Nat.le_refl _) _
    have hadd : (⟨a, oa, none⟩ : Addr).add j = ⟨a, oa + j / 4 * 4 + j % 4, none⟩ := by
      have e2 : oa + j / 4 * 4 + j % 4 = oa + j := by omega
      rw [e2]; unfold Addr.add; split <;> simp_all
    rw [hadd, hb.cell (p := ⟨a, oa + j / 4 * 4 + j % 4, none⟩) ha]
    exact HC.out (j / 4) (by omega) (j % 4) (by omega)
  case c2 => intro u hu; unfold els at hu; obtain ⟨i, _, rfl⟩ := List.mem_map.mp hu; rfl
  case c3 => unfold maxLen; omega
  case c4 => omega
  case c5 => simp
  intro v' w2 hown' hgrow _
  go_wp2
  go_ret
  refine ⟨_, rfl, ?_, ?_⟩
  · exact hown'
  · exact ((Below.refl _ w).alloc (Nat.le_refl _) _).grown hgrow (by simp) (fun j hj => own_block_geE HO.out hj)
/-- CopyElems: the same elements in new memory. -/
theorem copyB_any (n : Nat) (v : Value) (f : Nat → Nat) (hn : n ≤ 4398046510976) (w : World) (h : Es w v n f) :
    Calls Tryz.prog 43 #[v] w fun e w' => ∃ v', e = .returned v' ∧ w'.ownsRow w.heap.size 50 4 v' n (els f n) ∧ Below w.heap.size w w' := by
  rcases h with ⟨rfl, rfl⟩ | ⟨b, o, c, rfl, _, _, hb, hc⟩
  · exact copyE_nil w
  · exact copyB_some n c b o f hn w hb hc
end Go.Proofs.YtgldibfpidmfhaaGreatDoor

/- sigilref00.CopyTable: a table as new memory. -/
namespace Go.Proofs.YtgldibfpidmfhaaGreatDoor
open Go.RowKit
theorem tabInf : ∃ i : TypeInfo, Tryz.prog.info? 41 = some i ∧ i.zero = some (.slice none 0 0) ∧ i.size = 1 ∧ i.bytes = 24 := by
  have h : (Tryz.prog.info? 41).map (fun i => (i.zero, i.size, i.bytes)) = some (some (.slice none 0 0), 1, 24) := by kernel_rfl
  obtain ⟨i, hi, he⟩ := Option.map_eq_some_iff.mp h
  simp only [Prod.mk.injEq] at he
  exact ⟨i, hi, he.1, he.2.1, he.2.2⟩
theorem Es.grown {w w' : World} {v : Value} {n : Nat} {f : Nat → Nat} {row : Option Nat} (h : Es w v n f) (hg : w.grownBy w' row) (hs : ∀ b o c, v = .slice (some ⟨b, o, none⟩) n c → row ≠ some b) : Es w' v n f := by
  rcases h with h | ⟨b, o, c, hv, h1, h2, h3, h4⟩
  · exact Or.inl h
  · refine Or.inr ⟨b, o, c, hv, h1, h2, Nat.lt_of_lt_of_le h3 hg.size, fun i hi j hj => ?_⟩
    rw [World.cell?_of_block (w := w) (hg.block b h3 (fun e => hs b o c hv e.symm))]
    exact h4 i hi j hj
theorem Es.blk {w : World} {v : Value} {n : Nat} {f : Nat → Nat} (h : Es w v n f) (b o c : Nat) (hv : v = .slice (some ⟨b, o, none⟩) n c) : b < w.heap.size := by
  rcases h with ⟨h, _⟩ | ⟨b', o', c', h, _, _, h3, _⟩
  · rw [h] at hv; cases hv
  · rw [h] at hv; cases hv; exact h3
/-- A list of elements that lies not in block q, nor below base. -/
def EsN (w : World) (v : Value) (n : Nat) (f : Nat → Nat) (q : Option Nat) (base : Nat) : Prop := Es w v n f ∧ ∀ b o c, v = .slice (some ⟨b, o, none⟩) n c → q ≠ some b ∧ base ≤ b
theorem EsN.below {w w' : World} {v : Value} {n : Nat} {f : Nat → Nat} {q : Option Nat} {base : Nat} (h : EsN w v n f q base) (hb : Below w.heap.size w w') : EsN w' v n f q base := ⟨h.1.below hb, h.2⟩
theorem EsN.grown {w w' : World} {v v' u : Value} {n : Nat} {f : Nat → Nat} {base : Nat} (h : EsN w v n f u.ownBlock base) (hg : w.grownBy w' u.ownBlock) (hs : ∀ b, v'.ownBlock = some b → u.ownBlock = some b ∨ w.heap.size ≤ b) : EsN w' v n f v'.ownBlock base := by
  refine ⟨h.1.grown hg (fun b o c hv => (h.2 b o c hv).1), fun b o c hv => ⟨fun e => ?_, (h.2 b o c hv).2⟩⟩
  rcases hs b e with h1 | h1
  · exact (h.2 b o c hv).1 h1
  · have := h.1.blk b o c hv; omega
theorem own_EsN {w : World} {base b0 n : Nat} {v : Value} {f : Nat → Nat} {q : Option Nat} (h : w.ownsRow base 50 4 v n (els f n)) (hq : ∀ b, q = some b → b < base) (h0 : b0 ≤ base) : EsN w v n f q b0 :=
  ⟨own_Es h, fun b o c hv => by
    have h1 := own_ge h (j := b) (by rw [hv]; rfl)
    refine ⟨fun e => ?_, by omega⟩
    have h2 := hq b e
    omega⟩
theorem one_tab (w : World) (t : TypeId) (v : Value) : Rs (w.alloc (.cells #[v] t)) (.slice (some ⟨w.heap.size, 0, none⟩) 1 1) 1 1 (fun _ _ => v) := by
  refine BlkR.Rs (t := t) ⟨#[v], ?_, rfl, ?_⟩ (by decide)
  · show (w.heap.push _)[w.heap.size]? = _; simp
  · intro i hi j hj
    have hi0 : i = 0 := by omega
    have hj0 : j = 0 := by omega
    subst hi0 hj0
    rfl
/-- A table of one's own: in none of its blocks its lists. -/
def TabO (w : World) (v : Value) (base m : Nat) (F : Nat → Value) (L : Nat → Nat) (E : Nat → Nat → Nat) : Prop :=
  w.ownsRow base 41 1 v m (rwl 1 (fun i _ => F i) m) ∧ ∀ i, i < m → EsN w (F i) (L i) (E i) v.ownBlock base
theorem TabO.tab {w : World} {v : Value} {base m : Nat} {F : Nat → Value} {L : Nat → Nat} {E : Nat → Nat → Nat} (h : TabO w v base m F L E) : Tab w v m F L E := ⟨own_Rs h.1, fun i hi => Or.inl (h.2 i hi).1⟩
set_option maxHeartbeats 2000000 in
set_option maxRecDepth 20000 in
theorem copyE_zero (a : Addr) (c : Nat) (f : Nat → Nat) (w : World) :
    Calls Tryz.prog 43 #[.slice (some a) 0 c] w fun e w' => ∃ v', e = .returned v' ∧ w'.ownsRow w.heap.size 50 4 v' 0 (els f 0) ∧ Below w.heap.size w w' := by
  obtain ⟨i0, hi, hz0, hz1, hz2⟩ := elemInfo
  have HI := (show Hid _ from hi); have HZ := (show Hid _ from And.intro hz0 (And.intro hz1 hz2)); clear hi hz0 hz1 hz2
  obtain ⟨w1, hw1⟩ : ∃ x : World, x = w.alloc (.cells #[] 50) := ⟨_, rfl⟩
  have hb1 : Below w.heap.size w w1 := by rw [hw1]; exact (Below.refl _ _).alloc (Nat.le_refl _) _
  have HO : Hid (w1.ownsRow w.heap.size 50 4 (.slice (some ⟨w.heap.size, 0, none⟩) 0 0) 0 (els f 0)) := by rw [hw1]; exact own_new w 50 4
  have HB := (show Hid (Below w.heap.size w w1) from hb1)
  clear hb1
  go_enter Tryz.func43, Tryz.ntmps43
  go_wp2_with (first
    | (at_builtin; rw [← hw1]; refine wpList_app0 _ rfl _ _ 41 rfl w.heap.size 50 i0 (.agg #[.int .u64 0, .int .u64 0, .int .u64 0, .int .u64 0]) 4 32 Tryz.underlying41 HI.out HZ.out.1 HZ.out.2.1 HZ.out.2.2 rfl (by decide) _ 0 _ rfl HO.out a c rfl (by decide) (by decide) HB.out.size ?_)
    | go_in)
  intro v' w2 hown' hgrow
  have HF : Hid (w2.ownsRow w.heap.size 50 4 v' 0 (els f 0)) := hown'
  have HBF : Hid (Below w.heap.size w w2) := HB.out.grown (by rw [hw1]; exact hgrow) HB.out.size (fun j hj => own_ge HO.out hj)
  clear hown' hgrow
  go_wp2
  go_ret
  exact ⟨_, rfl, HF.out, HBF.out⟩
theorem copyE_z (n : Nat) (v : Value) (f : Nat → Nat) (hn : n ≤ 4398046510976) (w : World) (h : Ez w v n f) :
    Calls Tryz.prog 43 #[v] w fun e w' => ∃ v', e = .returned v' ∧ w'.ownsRow w.heap.size 50 4 v' n (els f n) ∧ Below w.heap.size w w' := by
  rcases h with h | ⟨rfl, a, c, rfl⟩
  · exact copyB_any n v f hn w h
  · exact copyE_zero a c f w
set_option maxHeartbeats 4000000 in
set_option maxRecDepth 100000 in
theorem copyT_any (m cm : Nat) (om : Option Addr) (F : Nat → Value) (L : Nat → Nat) (E : Nat → Nat → Nat) (hm : m ≤ 1000000) (hL : ∀ i, i < m → L i ≤ 4398046510976) (w : World) (hv : Tab w (.slice om m cm) m F L E) :
    Calls Tryz.prog 21 #[.slice om m cm] w fun e w' => (∃ v', e = .returned v' ∧ ∃ F', TabO w' v' w.heap.size m F' L E) ∧ Below w.heap.size w w' := by
  obtain ⟨it, hit, ht0, ht1, ht2⟩ := tabInf
  have HIT := (show Hid _ from hit); have HZT := (show Hid _ from And.intro ht0 (And.intro ht1 ht2)); clear hit ht0 ht1 ht2
  have HT : Hid (∀ w', Below w.heap.size w w' → Tab w' (.slice om m cm) m F L E) := fun w' h => hv.below h
  have HLL : Hid (∀ i, i < m → L i ≤ 4398046510976) := hL
  obtain ⟨w1, hw1⟩ : ∃ x : World, x = w.alloc (.cells #[] 41) := ⟨_, rfl⟩
  have hb1 : Below w.heap.size w w1 := by rw [hw1]; exact (Below.refl _ _).alloc (Nat.le_refl _) _
  have HO : Hid (TabO w1 (.slice (some ⟨w.heap.size, 0, none⟩) 0 0) w.heap.size 0 (fun _ => undef) L E) := by rw [hw1]; exact ⟨own_new w 41 1, fun i hi => by omega⟩
  have HB := (show Hid (Below w.heap.size w w1) from hb1)
  clear hv hL hb1
  go_enter Tryz.func21, Tryz.ntmps21
  go_upto_region 2 with fail
  rw [← hw1]
  clear hw1
  go_wp2
  go_loopw [4, 3] (fun iv lv wr => ∃ k : Nat, iv = .int .i64 (k : Int) ∧ k ≤ m ∧ Below w.heap.size w wr ∧ Hid (∃ F', TabO wr lv w.heap.size k F' L E)) (fun iv _ _ => m - (intOf iv).toNat)
  case atStart => exact ⟨0, rfl, Nat.zero_le _, HB.out, ⟨_, HO.out⟩⟩
  case round =>
    obtain ⟨k, rfl, hk, hbr, HTO⟩ := hrel
    obtain ⟨F', hto⟩ := HTO.out
    obtain ⟨ol, cl, rfl, _⟩ := own_shape hto.1
    by_cases hlt : k < m
    · have hki : (k : Int) < (m : Int) := by omega
      have hk0 : (0 : Int) ≤ (k : Int) := by omega
      have hT := HT.out _ hbr
      have hE := hT.2 k hlt
      obtain ⟨ab, ao, oi, ci, rfl, _, hF, a0⟩ := hT.at hlt
      rw [hF] at hE
      have HC : Hid (Calls _ _ _ _ _) := copyE_z (L k) (.slice oi (L k) ci) (E k) (HLL.out k hlt) wr hE
      obtain ⟨y, ey⟩ : ∃ y, y = L k := ⟨_, rfl⟩
      rw [← ey] at a0 HC
      have HY : Hid (y = L k) := ey
      have HBR : Hid (Below w.heap.size w wr) := hbr
      have HTW : Hid (TabO wr (.slice ol k cl) w.heap.size k F' L E) := hto
      clear ey hE hF hT hto hbr HTO
      go_wp2_with fail
      refine Calls.mono HC.out ?_
      rintro e w2 ⟨v2, rfl, ho2, hb2⟩
      obtain ⟨o2, c2, rfl, _⟩ := own_shape ho2
      obtain ⟨w3, hw3⟩ : ∃ x : World, x = w2.alloc (.cells #[.slice o2 y c2] 41) := ⟨_, rfl⟩
      have hb3 : Below wr.heap.size wr w3 := by rw [hw3]; exact bStep hb2 (bAlloc (Below.refl _ _) _)
      have hb23 : Below w2.heap.size w2 w3 := by rw [hw3]; exact bAlloc (Below.refl _ _) _
      have HOA : Hid (w3.ownsRow w.heap.size 41 1 (.slice ol k cl) k (rwl 1 (fun i _ => F' i) k)) := own_below HTW.out.1 hb3
      have HON1 : Hid (Rs w3 (.slice (some ⟨w2.heap.size, 0, none⟩) 1 1) 1 1 (fun _ _ => .slice o2 y c2)) := by rw [hw3]; exact one_tab w2 41 _
      have HSZ : Hid (w.heap.size ≤ w3.heap.size) := Nat.le_trans HBR.out.size hb3.size
      have HNE : Hid (EsN w3 (.slice o2 y c2) (L k) (E k) (Value.slice ol k cl).ownBlock w.heap.size) := by
        rw [← HY.out]
        refine EsN.below (own_EsN ho2 (fun b hb => ?_) HBR.out.size) hb23
        exact (own_lt HTW.out.1 b hb).2
      have HB3 : Hid (Below wr.heap.size wr w3) := hb3
      clear ho2 hb2 hb3 hb23 HC a0
      go_wp2_with (first
        | (at_builtin; rw [← hw3]; refine wpList_appR _ rfl _ _ 28 rfl w.heap.size 41 it (.slice none 0 0) 1 24 Tryz.underlying28 HIT.out HZT.out.1 HZT.out.2.1 HZT.out.2.2 rfl (by decide) _ k _ rfl HOA.out 1 _ _ rfl HON1.out (fun i _ j _ => rfl) ?c1 ?c2 HSZ.out ?_)
        | go_in)
      case c1 => unfold maxLen; omega
      case c2 => omega
      intro v' w4 hown4 hg4 hsep4
      have HTN : Hid (∃ F'', TabO w4 v' w.heap.size (k + 1) F'' L E) := by
        refine ⟨fun i => if i < k then F' i else .slice o2 y c2, ?_, fun i hi => ?_⟩
        · rw [rwl_congr (G := fun i => if i < k then (fun i _ => F' i) i else fun _ => .slice o2 y c2) (fun i hi j _ => by
            dsimp only
            by_cases h : i < k
            · rw [if_pos h, if_pos h]
            · rw [if_neg h, if_neg h])]
          exact hown4
        · by_cases h : i < k
          · dsimp only
            rw [if_pos h]
            exact ((HTW.out.2 i h).below HB3.out).grown (by rw [hw3]; exact hg4) (fun b hb => (hsep4 b hb).imp id (fun h => by rw [hw3]; simpa using h))
          · have h3 : i = k := by omega
            dsimp only
            rw [if_neg h, h3]
            exact HNE.out.grown (by rw [hw3]; exact hg4) (fun b hb => (hsep4 b hb).imp id (fun h => by rw [hw3]; simpa using h))
      have HBN : Hid (Below w.heap.size w w4) := (bStep HBR.out HB3.out).grown (by rw [hw3]; exact hg4) (bStep HBR.out HB3.out).size (fun j hj => own_ge HTW.out.1 hj)
      clear hown4 hg4 hsep4
      go_wp2
      go_roundw
      case measure => simp [intOf]; omega
      case rel => exact ⟨k + 1, by go_num, hlt, HBN.out, HTN⟩
    · have hki : ¬ (k : Int) < (m : Int) := by omega
      have ek : m = k := by omega
      subst ek
      have HTW : Hid (TabO wr (.slice ol m cl) w.heap.size m F' L E) := hto
      have HBR : Hid (Below w.heap.size w wr) := hbr
      clear hto hbr HTO
      go_wp2
      go_ret
      exact ⟨⟨_, rfl, F', HTW.out⟩, HBR.out⟩
end Go.Proofs.YtgldibfpidmfhaaGreatDoor

