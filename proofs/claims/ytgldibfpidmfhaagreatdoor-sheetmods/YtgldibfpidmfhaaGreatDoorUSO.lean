/- What a sheet breaks hangs on its numbers modulo the modulus alone. -/
import Derived.Test.YtgldibfpidmfhaaGreatDoorUSS
import Derived.Test.YtgldibfpidmfhaaGreatDoorUSHA
namespace Go.Proofs.YtgldibfpidmfhaaGreatDoor
open Go.RowKit
theorem addP_mod {s a b : Nat} (h : a % modN s = b % modN s) : addP s a 0 = addP s b 0 := by
  unfold addP
  rw [Nat.add_zero, Nat.add_zero, h]
theorem subP_mod {s a b c d : Nat} (h : a % modN s = b % modN s) (k : c % modN s = d % modN s) : subP s a c = subP s b d := by
  unfold subP
  rw [k, Nat.add_mod, h, ← Nat.add_mod]
theorem fsM_mod {s : Nat} (Q : Nat → Int × Int × Int) {A B : Nat → Nat} (h : ∀ i, A i % modN s = B i % modN s) (q : Int × Int × Int) : ∀ k, (fsM Q A k q).isSome = (fsM Q B k q).isSome ∧ (fsM Q A k q).getD 0 % modN s = (fsM Q B k q).getD 0 % modN s
  | 0 => ⟨rfl, rfl⟩
  | k + 1 => by
    obtain ⟨h1, h2⟩ := fsM_mod Q h q k
    show ((if (fsM Q A k q).isSome = true then fsM Q A k q else if Q k = q then some (A k) else none) : Option Nat).isSome = ((if (fsM Q B k q).isSome = true then fsM Q B k q else if Q k = q then some (B k) else none) : Option Nat).isSome ∧ ((if (fsM Q A k q).isSome = true then fsM Q A k q else if Q k = q then some (A k) else none) : Option Nat).getD 0 % modN s = ((if (fsM Q B k q).isSome = true then fsM Q B k q else if Q k = q then some (B k) else none) : Option Nat).getD 0 % modN s
    by_cases c : (fsM Q A k q).isSome = true
    · have c2 : (fsM Q B k q).isSome = true := by rw [← h1]; exact c
      rw [if_pos c, if_pos c2]
      exact ⟨h1, h2⟩
    · have c2 : ¬ (fsM Q B k q).isSome = true := by rw [← h1]; exact c
      rw [if_neg c, if_neg c2]
      by_cases d : Q k = q
      · rw [if_pos d, if_pos d]; exact ⟨rfl, h k⟩
      · rw [if_neg d, if_neg d]; exact ⟨rfl, rfl⟩
theorem vls_mod {s : Nat} {M N : Int × Int × Int → Option Nat} (T : Nat → Int × Int × Int × Nat) (h : ∀ q, (M q).getD 0 % modN s = (N q).getD 0 % modN s) : ∀ k, vls s M T k = vls s N T k
  | 0 => rfl
  | k + 1 => by
    have ih := vls_mod T h k
    funext i
    show (if i = k then vstp s M (T k) (vls s M T k) else vls s M T k i) = if i = k then vstp s N (T k) (vls s N T k) else vls s N T k i
    rw [ih]
    by_cases e : i = k
    · rw [if_pos e, if_pos e]
      unfold vstp
      rw [addP_mod (h _)]
    · rw [if_neg e, if_neg e]
theorem cellE_mod {s m : Nat} {L : Nat → Nat} {E E2 : Nat → Nat → Nat} (h : ∀ i, i < m → ∀ j, j < L i → E2 i j % modN s = E i j % modN s) (col row : Int) : cellE m L E2 col row % modN s = cellE m L E col row % modN s := by
  unfold cellE
  split
  · next c => exact h _ (by omega) _ (by omega)
  · rfl
theorem shE_mod (s : Nat) (na : Nat) (La : Nat → Nat) (Ea : Nat → Nat → Nat) (nb : Nat) (Lb : Nat → Nat) (Eb : Nat → Nat → Nat) (nc : Nat) (Lc : Nat → Nat) (Ec : Nat → Nat → Nat) (Eb2 : Nat → Nat → Nat) (h : ∀ i, i < nb → ∀ j, j < Lb i → Eb2 i j % modN s = Eb i j % modN s) (kind col row : Int) : shE na La Ea nb Lb Eb2 nc Lc Ec kind col row % modN s = shE na La Ea nb Lb Eb nc Lc Ec kind col row % modN s := by
  unfold shE
  split
  · rfl
  · split
    · exact cellE_mod h col row
    · rfl
theorem rowV_mod (s : Nat) (na : Nat) (La : Nat → Nat) (Ea : Nat → Nat → Nat) (nb : Nat) (Lb : Nat → Nat) (Eb : Nat → Nat → Nat) (nc : Nat) (Lc : Nat → Nat) (Ec : Nat → Nat → Nat) (Eb2 : Nat → Nat → Nat) (h : ∀ i, i < nb → ∀ j, j < Lb i → Eb2 i j % modN s = Eb i j % modN s) (kn : Nat) (row : Int) (T : Nat → Int × Int × Int × Nat) (n i : Nat) : rowV s na La Ea nb Lb Eb2 nc Lc Ec kn row T n i = rowV s na La Ea nb Lb Eb nc Lc Ec kn row T n i := by
  unfold rowV rowM
  rw [vls_mod T (fun q => (fsM_mod (qF T n) (fun i => ?_) q (qN T n)).2) n]
  unfold atQ
  exact shE_mod s na La Ea nb Lb Eb nc Lc Ec Eb2 h _ _ _
theorem cpD_mod (s : Nat) (na : Nat) (La : Nat → Nat) (Ea : Nat → Nat → Nat) (nb : Nat) (Lb : Nat → Nat) (Eb : Nat → Nat → Nat) (nc : Nat) (Lc : Nat → Nat) (Ec : Nat → Nat → Nat) (Eb2 : Nat → Nat → Nat) (h : ∀ i, i < nb → ∀ j, j < Lb i → Eb2 i j % modN s = Eb i j % modN s) (E : Nat → Int × Int) (P : Nat → Int × Int × Int × Int) (i : Nat) : cpD s na La Ea nb Lb Eb2 nc Lc Ec E P i = cpD s na La Ea nb Lb Eb nc Lc Ec E P i := by
  unfold cpD
  exact subP_mod (shE_mod s na La Ea nb Lb Eb nc Lc Ec Eb2 h _ _ _) (shE_mod s na La Ea nb Lb Eb nc Lc Ec Eb2 h _ _ _)
theorem allF_mod (s : Nat) (na : Nat) (La : Nat → Nat) (Ea : Nat → Nat → Nat) (nb : Nat) (Lb : Nat → Nat) (Eb : Nat → Nat → Nat) (nc : Nat) (Lc : Nat → Nat) (Ec : Nat → Nat → Nat) (Eb2 : Nat → Nat → Nat) (h : ∀ i, i < nb → ∀ j, j < Lb i → Eb2 i j % modN s = Eb i j % modN s) (kn : Nat) (T : Nat → Int × Int × Int × Nat) (n : Nat) (G : Nat → Int) (g : Nat) (ni nt : Nat → Nat) (In Tb : Nat → Nat → Int) (l : Nat) (E : Nat → Int × Int) (P : Nat → Int × Int × Int × Int) (nd : Nat) :
    allF s na La Ea nb Lb Eb2 nc Lc Ec kn T n G g ni nt In Tb l E P nd = allF s na La Ea nb Lb Eb nc Lc Ec kn T n G g ni nt In Tb l E P nd := by
  unfold allF
  have h1 : (fun (r : Nat) i => rowV s na La Ea nb Lb Eb2 nc Lc Ec kn (r : Int) T n i) = fun (r : Nat) i => rowV s na La Ea nb Lb Eb nc Lc Ec kn (r : Int) T n i := by
    funext r i
    exact rowV_mod s na La Ea nb Lb Eb nc Lc Ec Eb2 h kn r T n i
  have h2 : cpD s na La Ea nb Lb Eb2 nc Lc Ec E P = cpD s na La Ea nb Lb Eb nc Lc Ec E P := funext (fun i => cpD_mod s na La Ea nb Lb Eb nc Lc Ec Eb2 h E P i)
  rw [h1, h2]
/-- A number with the modulus put to it. -/
def mdP (s x : Nat) : Nat := addP s x 0 + modN s
theorem mdP_mod (s x : Nat) : mdP s x % modN s = x % modN s := by
  unfold mdP addP
  rw [Nat.add_mod_right, Nat.mod_mod, Nat.add_zero]
end Go.Proofs.YtgldibfpidmfhaaGreatDoor

/- CopyTable and CopySheet once more: the lists lie in blocks of their own, each another. -/
namespace Go.Proofs.YtgldibfpidmfhaaGreatDoor
open Go.RowKit
theorem own_low {w : World} {base b0 size n : Nat} {e : TypeId} {v : Value} {xs : List Value} (h : w.ownsRow base e size v n xs) (hb : b0 ≤ base) : w.ownsRow b0 e size v n xs := by
  obtain ⟨hl, h⟩ := h
  refine ⟨hl, ?_⟩
  rcases h with h | ⟨g, c, cur, h1, h2, h3⟩
  · exact Or.inl h
  · exact Or.inr ⟨g, c, cur, h1, by omega, h3⟩
theorem own_sep {w w2 : World} {base b0 size n m : Nat} {e : TypeId} {v : Value} {xs : List Value} {q : Option Nat} {f : Nat → Nat} (h : w.ownsRow base e size v n xs) (k : EsN w2 v m f q b0) : v.ownBlock = none ∨ v.ownBlock ≠ q := by
  obtain ⟨hl, h⟩ := h
  rcases h with ⟨rfl, _⟩ | ⟨g, c, cur, rfl, _⟩
  · exact Or.inl rfl
  · refine Or.inr (fun e => ?_)
    rcases k.1 with ⟨h1, _⟩ | ⟨b, o, c', h1, _⟩
    · cases h1
    · exact (k.2 b o c' h1).1 (by rw [← e, h1]; rfl)
/-- A table of one's own whose lists lie in blocks of their own, each another. -/
def TabD (w : World) (v : Value) (base m : Nat) (F : Nat → Value) (L : Nat → Nat) (E : Nat → Nat → Nat) : Prop :=
  TabO w v base m F L E ∧ (∀ i, i < m → w.ownsRow base 50 4 (F i) (L i) (els (E i) (L i))) ∧ ∀ i j b, i < m → j < i → (F i).ownBlock = some b → (F j).ownBlock ≠ some b
set_option maxHeartbeats 4000000 in
set_option maxRecDepth 100000 in
theorem copyTD_any (m cm : Nat) (om : Option Addr) (F : Nat → Value) (L : Nat → Nat) (E : Nat → Nat → Nat) (hm : m ≤ 1000000) (hL : ∀ i, i < m → L i ≤ 4398046510976) (w : World) (hv : Tab w (.slice om m cm) m F L E) :
    Calls Tryz.prog 21 #[.slice om m cm] w fun e w' => (∃ v', e = .returned v' ∧ ∃ F', TabD w' v' w.heap.size m F' L E) ∧ Below w.heap.size w w' := by
  obtain ⟨it, hit, ht0, ht1, ht2⟩ := tabInf
  have HIT := (show Hid _ from hit); have HZT := (show Hid _ from And.intro ht0 (And.intro ht1 ht2)); clear hit ht0 ht1 ht2
  have HT : Hid (∀ w', Below w.heap.size w w' → Tab w' (.slice om m cm) m F L E) := fun w' h => hv.below h
  have HLL : Hid (∀ i, i < m → L i ≤ 4398046510976) := hL
  obtain ⟨w1, hw1⟩ : ∃ x : World, x = w.alloc (.cells #[] 41) := ⟨_, rfl⟩
  have hb1 : Below w.heap.size w w1 := by rw [hw1]; exact (Below.refl _ _).alloc (Nat.le_refl _) _
  have HO : Hid (TabD w1 (.slice (some ⟨w.heap.size, 0, none⟩) 0 0) w.heap.size 0 (fun _ => undef) L E) := by rw [hw1]; exact ⟨⟨own_new w 41 1, fun i hi => by omega⟩, fun i hi => by omega, fun i j b hi => by omega⟩
  have HB := (show Hid (Below w.heap.size w w1) from hb1)
  clear hv hL hb1
  go_enter Tryz.func21, Tryz.ntmps21
  go_upto_region 2 with fail
  rw [← hw1]
  clear hw1
  go_wp2
  go_loopw [4, 3] (fun iv lv wr => ∃ k : Nat, iv = .int .i64 (k : Int) ∧ k ≤ m ∧ Below w.heap.size w wr ∧ Hid (∃ F', TabD wr lv w.heap.size k F' L E)) (fun iv _ _ => m - (intOf iv).toNat)
  case atStart => exact ⟨0, rfl, Nat.zero_le _, HB.out, ⟨_, HO.out⟩⟩
  case round =>
    obtain ⟨k, rfl, hk, hbr, HTO⟩ := hrel
    obtain ⟨F', hto⟩ := HTO.out
    obtain ⟨ol, cl, rfl, _⟩ := own_shape hto.1.1
    by_cases hlt : k < m
    · have hki : (k : Int) < (m : Int) := by omega
      have hk0 : (0 : Int) ≤ (k : Int) := by omega
      have hT := HT.out _ hbr
      have hE := hT.2 k hlt
      obtain ⟨ab, ao, oi, ci, rfl, _, hF, a0⟩ := hT.at hlt
      rw [hF] at hE
      have HC : Hid (Calls _ _ _ _ _) := copyE_z (L k) (.slice oi (L k) ci) (E k) (HLL.out k hlt) wr hE
      obtain ⟨y, ey⟩ : ∃ y, y = L k := ⟨_, rfl⟩
      rw [← ey] at a0 HC
      have HY : Hid (y = L k) := ey
      have HBR : Hid (Below w.heap.size w wr) := hbr
      have HTW : Hid (TabD wr (.slice ol k cl) w.heap.size k F' L E) := hto
      clear ey hE hF hT hto hbr HTO
      go_wp2_with fail
      refine Calls.mono HC.out ?_
      rintro e w2 ⟨v2, rfl, ho2, hb2⟩
      obtain ⟨o2, c2, rfl, _⟩ := own_shape ho2
      obtain ⟨w3, hw3⟩ : ∃ x : World, x = w2.alloc (.cells #[.slice o2 y c2] 41) := ⟨_, rfl⟩
      have hb3 : Below wr.heap.size wr w3 := by rw [hw3]; exact bStep hb2 (bAlloc (Below.refl _ _) _)
      have hb23 : Below w2.heap.size w2 w3 := by rw [hw3]; exact bAlloc (Below.refl _ _) _
      have HOA : Hid (w3.ownsRow w.heap.size 41 1 (.slice ol k cl) k (rwl 1 (fun i _ => F' i) k)) := own_below HTW.out.1.1 hb3
      have HON1 : Hid (Rs w3 (.slice (some ⟨w2.heap.size, 0, none⟩) 1 1) 1 1 (fun _ _ => .slice o2 y c2)) := by rw [hw3]; exact one_tab w2 41 _
      have HSZ : Hid (w.heap.size ≤ w3.heap.size) := Nat.le_trans HBR.out.size hb3.size
      have HNE : Hid (EsN w3 (.slice o2 y c2) (L k) (E k) (Value.slice ol k cl).ownBlock w.heap.size) := by
        rw [← HY.out]
        refine EsN.below (own_EsN ho2 (fun b hb => ?_) HBR.out.size) hb23
        exact (own_lt HTW.out.1.1 b hb).2
      have HOW : Hid (w3.ownsRow w.heap.size 50 4 (.slice o2 y c2) (L k) (els (E k) (L k))) := by
        rw [← HY.out]
        exact own_low (own_below ho2 hb23) HBR.out.size
      have HGE : Hid (∀ b, (Value.slice o2 y c2).ownBlock = some b → wr.heap.size ≤ b) := fun b hb => own_ge ho2 hb
      have HB3 : Hid (Below wr.heap.size wr w3) := hb3
      clear ho2 hb2 hb3 hb23 HC a0
      go_wp2_with (first
        | (at_builtin; rw [← hw3]; refine wpList_appR _ rfl _ _ 28 rfl w.heap.size 41 it (.slice none 0 0) 1 24 Tryz.underlying28 HIT.out HZT.out.1 HZT.out.2.1 HZT.out.2.2 rfl (by decide) _ k _ rfl HOA.out 1 _ _ rfl HON1.out (fun i _ j _ => rfl) ?c1 ?c2 HSZ.out ?_)
        | go_in)
      case c1 => unfold maxLen; omega
      case c2 => omega
      intro v' w4 hown4 hg4 hsep4
      have HTN : Hid (∃ F'', TabD w4 v' w.heap.size (k + 1) F'' L E) := by
        have hsp : ∀ b, v'.ownBlock = some b → (Value.slice ol k cl).ownBlock = some b ∨ w3.heap.size ≤ b := fun b hb => (hsep4 b hb).imp id (fun h => by rw [hw3]; simpa using h)
        have hgr : w3.grownBy w4 (Value.slice ol k cl).ownBlock := by rw [hw3]; exact hg4
        refine ⟨fun i => if i < k then F' i else .slice o2 y c2, ⟨?_, fun i hi => ?_⟩, fun i hi => ?_, fun i j b hi hj hib => ?_⟩
        · rw [rwl_congr (G := fun i => if i < k then (fun i _ => F' i) i else fun _ => .slice o2 y c2) (fun i hi j _ => by
            dsimp only
            by_cases h : i < k
            · rw [if_pos h, if_pos h]
            · rw [if_neg h, if_neg h])]
          exact hown4
        · by_cases h : i < k
          · dsimp only
            rw [if_pos h]
            exact ((HTW.out.1.2 i h).below HB3.out).grown hgr hsp
          · have h3 : i = k := by omega
            dsimp only
            rw [if_neg h, h3]
            exact HNE.out.grown hgr hsp
        · by_cases h : i < k
          · dsimp only
            rw [if_pos h]
            exact (own_below (HTW.out.2.1 i h) HB3.out).kept hgr (own_sep (HTW.out.2.1 i h) (HTW.out.1.2 i h))
          · have h3 : i = k := by omega
            dsimp only
            rw [if_neg h, h3]
            exact HOW.out.kept hgr (own_sep HOW.out HNE.out)
        · dsimp only at hib ⊢
          by_cases h : i < k
          · rw [if_pos h] at hib
            rw [if_pos (by omega)]
            exact HTW.out.2.2 i j b h hj hib
          · rw [if_neg h] at hib
            rw [if_pos (by omega)]
            intro hjb
            have h1 := HGE.out b hib
            have h2 := (own_lt (HTW.out.2.1 j (by omega)) b hjb).2
            omega
      have HBN : Hid (Below w.heap.size w w4) := (bStep HBR.out HB3.out).grown (by rw [hw3]; exact hg4) (bStep HBR.out HB3.out).size (fun j hj => own_ge HTW.out.1.1 hj)
      clear hown4 hg4 hsep4
      go_wp2
      go_roundw
      case measure => simp [intOf]; omega
      case rel => exact ⟨k + 1, by go_num, hlt, HBN.out, HTN⟩
    · have hki : ¬ (k : Int) < (m : Int) := by omega
      have ek : m = k := by omega
      subst ek
      have HTW : Hid (TabD wr (.slice ol m cl) w.heap.size m F' L E) := hto
      have HBR : Hid (Below w.heap.size w wr) := hbr
      clear hto hbr HTO
      go_wp2
      go_ret
      exact ⟨⟨_, rfl, F', HTW.out⟩, HBR.out⟩
theorem TabD.below {w w' : World} {v : Value} {base m : Nat} {F : Nat → Value} {L : Nat → Nat} {E : Nat → Nat → Nat} (h : TabD w v base m F L E) (hb : Below w.heap.size w w') : TabD w' v base m F L E :=
  ⟨h.1.below hb, fun i hi => own_below (h.2.1 i hi) hb, h.2.2⟩
theorem TabD.ks {w w' : World} {v : Value} {base m : Nat} {F : Nat → Value} {L : Nat → Nat} {E : Nat → Nat → Nat} {S : Nat → Prop} (h : TabD w v base m F L E) (k : KS S w w') (hs : ∀ b, S b → b < base) : TabD w' v base m F L E := by
  have keep : ∀ {size n : Nat} {e : TypeId} {u : Value} {xs : List Value}, w.ownsRow base e size u n xs → w'.ownsRow base e size u n xs := fun h1 => own_keep h1 (fun b hv => k.block (own_lt h1 b hv).2 (fun e => by have := hs b e; have := (own_lt h1 b hv).1; omega))
  exact ⟨⟨keep h.1.1, fun i hi => ⟨own_Es (keep (h.2.1 i hi)), (h.1.2 i hi).2⟩⟩, fun i hi => keep (h.2.1 i hi), h.2.2⟩
theorem TabD.low {w : World} {v : Value} {base b0 m : Nat} {F : Nat → Value} {L : Nat → Nat} {E : Nat → Nat → Nat} (h : TabD w v base m F L E) (hb : b0 ≤ base) : TabD w v b0 m F L E :=
  ⟨⟨own_low h.1.1 hb, fun i hi => ⟨(h.1.2 i hi).1, fun b o c e => ⟨((h.1.2 i hi).2 b o c e).1, Nat.le_trans hb ((h.1.2 i hi).2 b o c e).2⟩⟩⟩, fun i hi => own_low (h.2.1 i hi) hb, h.2.2⟩
/-- All blocks of a table. -/
def AllB (P : Nat → Prop) (v : Value) (m : Nat) (F : Nat → Value) (L : Nat → Nat) : Prop := (∀ b o c, v = .slice (some ⟨b, o, none⟩) m c → P b) ∧ ∀ i, i < m → ∀ b o c, F i = .slice (some ⟨b, o, none⟩) (L i) c → P b
theorem TabO.all {w : World} {v : Value} {base m : Nat} {F : Nat → Value} {L : Nat → Nat} {E : Nat → Nat → Nat} (h : TabO w v base m F L E) : AllB (fun b => base ≤ b ∧ b < w.heap.size) v m F L :=
  ⟨fun b o c e => own_lt h.1 b (by rw [e]; rfl), fun i hi b o c e => ⟨((h.2 i hi).2 b o c e).2, (h.2 i hi).1.blk b o c e⟩⟩
theorem Tab.ksA {w w' : World} {v : Value} {m : Nat} {F : Nat → Value} {L : Nat → Nat} {E : Nat → Nat → Nat} {S P : Nat → Prop} (h : Tab w v m F L E) (ha : AllB P v m F L) (k : KS S w w') (hs : ∀ b, P b → ¬ S b) : Tab w' v m F L E :=
  ⟨Rs.ks h.1 (fun b o c e => hs b (ha.1 b o c e)) k, fun i hi => by
    rcases h.2 i hi with h1 | h1
    · exact Or.inl (h1.ks (fun b o c e => hs b (ha.2 i hi b o c e)) k)
    · exact Or.inr h1⟩
/-- What a copy of a sheet is whose advice is to be changed in place. -/
def CopyD (e : Ending) (w w' : World) (na : Nat) (La : Nat → Nat) (Ea : Nat → Nat → Nat) (nb : Nat) (Lb : Nat → Nat) (Eb : Nat → Nat → Nat) (nc : Nat) (Lc : Nat → Nat) (Ec : Nat → Nat → Nat) (nd : Nat) (P : Nat → Int × Int × Int × Int) : Prop :=
  ∃ (oA oB oC oD : Option Addr) (cA cB cC cD : Nat) (FA FB FC : Nat → Value), e = .returned (.agg #[.slice oA na cA, .slice oB nb cB, .slice oC nc cC, .slice oD nd cD]) ∧ (TabD w' (.slice oB nb cB) w.heap.size nb FB Lb Eb ∧ ∀ w2, KS (fun b => ∃ i, i < nb ∧ (FB i).ownBlock = some b) w' w2 → Tab w2 (.slice oA na cA) na FA La Ea ∧ Tab w2 (.slice oC nc cC) nc FC Lc Ec ∧ Cps w2 (.slice oD nd cD) nd P) ∧ Below w.heap.size w w'
set_option maxHeartbeats 16000000 in
set_option maxRecDepth 100000 in
theorem copySD_any (oa ob oc od : Option Addr) (na ca nb cb nc cc nd cd : Nat) (Fa Fb Fc : Nat → Value) (La Lb Lc : Nat → Nat) (Ea Eb Ec : Nat → Nat → Nat) (P : Nat → Int × Int × Int × Int) (ha : na ≤ 1000000) (hb : nb ≤ 1000000) (hc : nc ≤ 1000000) (hd : nd ≤ 1000000) (hLa : ∀ i, i < na → La i ≤ 4398046510976) (hLb : ∀ i, i < nb → Lb i ≤ 4398046510976) (hLc : ∀ i, i < nc → Lc i ≤ 4398046510976) (w : World)
    (hs : ShQ w (.slice oa na ca) (.slice ob nb cb) (.slice oc nc cc) (.slice od nd cd) na Fa La Ea nb Fb Lb Eb nc Fc Lc Ec nd P) :
    Calls Tryz.prog 8 #[.agg #[.slice oa na ca, .slice ob nb cb, .slice oc nc cc, .slice od nd cd]] w fun e w' => CopyD e w w' na La Ea nb Lb Eb nc Lc Ec nd P := by
  obtain ⟨ic, hic, hc0, hc1, hc2⟩ := cpInf
  have HIC := (show Hid _ from hic); have HZC := (show Hid _ from And.intro hc0 (And.intro hc1 hc2)); clear hic hc0 hc1 hc2
  obtain ⟨B1, eB1⟩ : ∃ b, b = w.heap.size := ⟨_, rfl⟩
  obtain ⟨B2, eB2⟩ : ∃ b, b = w.heap.size + 1 := ⟨_, rfl⟩
  obtain ⟨B3, eB3⟩ : ∃ b, b = w.heap.size + 1 + 1 := ⟨_, rfl⟩
  obtain ⟨w1, hw1⟩ : ∃ z : World, z = w.alloc (.cells #[.slice oa na ca, .slice ob nb cb, .slice oc nc cc, .slice od nd cd] 31) := ⟨_, rfl⟩
  have hz1 : w1.heap.size = w.heap.size + 1 := by rw [hw1]; simp
  obtain ⟨w2, hw2⟩ : ∃ z : World, z = w1.alloc (.cells #[.slice none 0 0, .slice none 0 0, .slice none 0 0, .slice none 0 0] 31) := ⟨_, rfl⟩
  have hz2 : w2.heap.size = w.heap.size + 1 + 1 := by rw [hw2]; simp [hz1]
  obtain ⟨w3, hw3⟩ : ∃ z : World, z = w2.alloc (.cells #[] 82) := ⟨_, rfl⟩
  have hz3 : w3.heap.size = w.heap.size + 1 + 1 + 1 := by rw [hw3]; simp [hz2]
  have hb1 : Below w.heap.size w w1 := by rw [hw1]; exact bAlloc (Below.refl _ _) _
  have hb2 : Below w1.heap.size w1 w2 := by rw [hw2]; exact bAlloc (Below.refl _ _) _
  have hb3 : Below w2.heap.size w2 w3 := by rw [hw3]; exact bAlloc (Below.refl _ _) _
  have f1 : w1.heap[B1]? = some (.cells #[.slice oa na ca, .slice ob nb cb, .slice oc nc cc, .slice od nd cd] 31) := by rw [hw1, eB1]; show (w.heap.push _)[w.heap.size]? = _; simp
  have f13 : w3.heap[B1]? = some (.cells #[.slice oa na ca, .slice ob nb cb, .slice oc nc cc, .slice od nd cd] 31) := (hb3.block B1 (by omega)).trans ((hb2.block B1 (by omega)).trans f1)
  have f2 : w2.heap[B2]? = some (.cells #[.slice none 0 0, .slice none 0 0, .slice none 0 0, .slice none 0 0] 31) := by rw [hw2, eB2, ← hz1]; show (w1.heap.push _)[w1.heap.size]? = _; simp
  have f23 : w3.heap[B2]? = some (.cells #[.slice none 0 0, .slice none 0 0, .slice none 0 0, .slice none 0 0] 31) := (hb3.block B2 (by omega)).trans f2
  have HLT : Hid (w.heap.size ≤ B1 ∧ B1 < B2 ∧ B2 < B3 ∧ B3 < w3.heap.size) := ⟨by omega, by omega, by omega, by omega⟩
  have HB3 : Hid (Below w.heap.size w w3) := bStep (bStep hb1 hb2) hb3
  have HFA : Hid (∀ w', KS (fun x => x = B2 ∨ x = B3) w3 w' → w'.cell? ⟨B1, 0, none⟩ = some (.slice oa na ca) ∧ w'.cell? ⟨B1, 1, none⟩ = some (.slice ob nb cb) ∧ w'.cell? ⟨B1, 2, none⟩ = some (.slice oc nc cc) ∧ w'.cell? ⟨B1, 3, none⟩ = some (.slice od nd cd)) := fun w' h => by
    have h1 := (h.block (b := B1) (by omega) (by omega)).trans f13
    exact ⟨by simp [World.cell?, h1], by simp [World.cell?, h1], by simp [World.cell?, h1], by simp [World.cell?, h1]⟩
  have HF2 : Hid (∀ w', KS (fun x => x = B3) w3 w' → w'.heap[B2]? = some (.cells #[.slice none 0 0, .slice none 0 0, .slice none 0 0, .slice none 0 0] 31)) := fun w' h => (h.block (b := B2) (by omega) (by omega)).trans f23
  have hbk : ∀ w', KS (fun x => x = B2 ∨ x = B3) w3 w' → Below w.heap.size w w' := fun w' h => HB3.out.trans (h.below HB3.out.size (fun x hx => by omega))
  have HCA : Hid (∀ w', KS (fun x => x = B2 ∨ x = B3) w3 w' → Calls _ _ _ w' _) := fun w' h => copyT_any na ca oa Fa La Ea ha hLa w' (hs.1.below (hbk w' h))
  have HCB : Hid (∀ w', KS (fun x => x = B2 ∨ x = B3) w3 w' → Calls _ _ _ w' _) := fun w' h => copyTD_any nb cb ob Fb Lb Eb hb hLb w' (hs.2.1.below (hbk w' h))
  have HCC : Hid (∀ w', KS (fun x => x = B2 ∨ x = B3) w3 w' → Calls _ _ _ w' _) := fun w' h => copyT_any nc cc oc Fc Lc Ec hc hLc w' (hs.2.2.1.below (hbk w' h))
  have HPW : Hid (∀ w', KS (fun x => x = B2 ∨ x = B3) w3 w' → Rs w' (.slice od nd cd) 4 nd (fun i => cpC (P i))) := fun w' h => hs.2.2.2.below (hbk w' h)
  have HND : Hid (nd ≤ 1000000) := hd
  have HO3 : Hid (w3.ownsRow B3 82 4 (.slice (some ⟨B3, 0, none⟩) 0 0) 0 (rwl 4 (fun _ _ => undef) 0)) := by rw [hw3, eB3, ← hz2]; exact own_new w2 82 4
  clear hs hLa hLb hLc ha hb hc hd hbk f1 f13 f2 f23 hb1 hb2 hb3
  go_enter Tryz.func8, Tryz.ntmps8
  go_upto_region 2 with fail
  rw [← hw1]
  rw [← hw2]
  rw [← hw3]
  (try rw [← eB3]); (try rw [← eB2]); (try rw [← eB1])
  clear hw1 hw2 hw3 hz1 hz2 hz3 eB1 eB2 eB3
  refine wp_region_Z (fun w' => KS (fun x => x = B2 ∨ x = B3) w3 w') 99 (by kernel_rfl) ?_
  obtain ⟨wD, hD⟩ : ∃ z : World, z = w3.drew := ⟨_, rfl⟩
  rw [← hD]
  have hq0 : Below w3.heap.size w3 wD := by rw [hD]; exact (Below.refl _ _).drew
  have hp0 : KS (fun x => x = B2 ∨ x = B3) w3 wD := KS.of hq0
  clear hD
  have hO := own_below HO3.out hq0
  have hr0 : KS (fun x => x = B3) w3 wD := KS.of hq0
  refine zt 0 5 (.pointer (some ⟨B1, 0, none⟩)) rfl rfl (fun w hSw => by go_simp) hp0 ?_
  simp only [Act.put, List.setIfInBounds_toArray]
  (try dsimp only [List.set_cons_zero, List.set_cons_succ])
  refine zt 1 6 (.slice oa na ca) rfl rfl (fun w hSw => by obtain ⟨q0, q1, q2, q3⟩ := HFA.out w hSw; clear hSw; go_simp) hp0 ?_
  simp only [Act.put, List.setIfInBounds_toArray]
  (try dsimp only [List.set_cons_zero, List.set_cons_succ])
  refine zt 3 8 (.pointer (some ⟨B1, 1, none⟩)) rfl rfl (fun w hSw => by go_simp) hp0 ?_
  simp only [Act.put, List.setIfInBounds_toArray]
  (try dsimp only [List.set_cons_zero, List.set_cons_succ])
  refine zt 4 9 (.slice ob nb cb) rfl rfl (fun w hSw => by obtain ⟨q0, q1, q2, q3⟩ := HFA.out w hSw; clear hSw; go_simp) hp0 ?_
  simp only [Act.put, List.setIfInBounds_toArray]
  (try dsimp only [List.set_cons_zero, List.set_cons_succ])
  refine zt 6 11 (.pointer (some ⟨B1, 2, none⟩)) rfl rfl (fun w hSw => by go_simp) hp0 ?_
  simp only [Act.put, List.setIfInBounds_toArray]
  (try dsimp only [List.set_cons_zero, List.set_cons_succ])
  refine zt 7 12 (.slice oc nc cc) rfl rfl (fun w hSw => by obtain ⟨q0, q1, q2, q3⟩ := HFA.out w hSw; clear hSw; go_simp) hp0 ?_
  simp only [Act.put, List.setIfInBounds_toArray]
  (try dsimp only [List.set_cons_zero, List.set_cons_succ])
  refine zt 9 14 (.slice (some ⟨B3, 0, none⟩) 0 0) rfl rfl (fun w hSw => by go_simp) hp0 ?_
  simp only [Act.put, List.setIfInBounds_toArray]
  (try dsimp only [List.set_cons_zero, List.set_cons_succ])
  refine zt 10 15 (.pointer (some ⟨B1, 3, none⟩)) rfl rfl (fun w hSw => by go_simp) hp0 ?_
  simp only [Act.put, List.setIfInBounds_toArray]
  (try dsimp only [List.set_cons_zero, List.set_cons_succ])
  refine zt 11 16 (.slice od nd cd) rfl rfl (fun w hSw => by obtain ⟨q0, q1, q2, q3⟩ := HFA.out w hSw; clear hSw; go_simp) hp0 ?_
  simp only [Act.put, List.setIfInBounds_toArray]
  (try dsimp only [List.set_cons_zero, List.set_cons_succ])
  refine wpZ_one (i := 2) (by kernel_rfl) rfl (fun K hK => ?_)
  go_simp
  refine Calls.mono (HCA.out wD hp0) ?_
  rintro e wK1 ⟨⟨vA, rfl, FA, htA⟩, hbK1⟩
  obtain ⟨oA, cA, hsA, _⟩ := own_shape htA.1
  subst hsA
  have hallA := htA.all
  have hpK1 : KS (fun x => x = B2 ∨ x = B3) w3 wK1 := hp0.trans (KS.of hbK1)
  have hO := own_below hO hbK1
  have hr1 : KS (fun x => x = B3) w3 wK1 := hr0.trans (KS.of hbK1)
  clear hbK1
  go_wp2_with fail
  refine hK.out _ _ (fun _ => hpK1) ?_
  clear hK K
  refine wpZ_one (i := 5) (by kernel_rfl) rfl (fun K hK => ?_)
  go_simp
  refine Calls.mono (HCB.out wK1 hpK1) ?_
  rintro e wK2 ⟨⟨vB, rfl, FB, htB⟩, hbK2⟩
  obtain ⟨oB, cB, hsB, _⟩ := own_shape htB.1.1
  subst hsB
  have lbB : ∀ i b, i < nb → (FB i).ownBlock = some b → wK1.heap.size ≤ b ∧ b < wK2.heap.size := fun i b hi e => own_lt (htB.2.1 i hi) b e
  have hpK2 : KS (fun x => x = B2 ∨ x = B3) w3 wK2 := hpK1.trans (KS.of hbK2)
  have hO := own_below hO hbK2
  have h12 := hbK2.size
  have htA := htA.below hbK2
  have hr2 : KS (fun x => x = B3) w3 wK2 := hr1.trans (KS.of hbK2)
  clear hbK2
  go_wp2_with fail
  refine hK.out _ _ (fun _ => hpK2) ?_
  clear hK K
  refine wpZ_one (i := 8) (by kernel_rfl) rfl (fun K hK => ?_)
  go_simp
  refine Calls.mono (HCC.out wK2 hpK2) ?_
  rintro e wK3 ⟨⟨vC, rfl, FC, htC⟩, hbK3⟩
  obtain ⟨oC, cC, hsC, _⟩ := own_shape htC.1
  subst hsC
  have hallC := htC.all
  have hpK3 : KS (fun x => x = B2 ∨ x = B3) w3 wK3 := hpK2.trans (KS.of hbK3)
  have hO := own_below hO hbK3
  have h23 := hbK3.size
  have h13 := Nat.le_trans h12 h23
  have htA := htA.below hbK3
  have htB := htB.below hbK3
  have hr3 : KS (fun x => x = B3) w3 wK3 := hr2.trans (KS.of hbK3)
  clear hbK3
  go_wp2_with fail
  refine hK.out _ _ (fun _ => hpK3) ?_
  clear hK K
  refine wpZ_one (i := 12) (by kernel_rfl) rfl (fun K hK => ?_)
  rw [if_pos (show Region.wanted _ _ = true from rfl)]
  refine wp_appR wK3 _ _ 29 rfl B3 82 ic (.agg #[.int .i64 0, .int .i64 0, .int .i64 0, .int .i64 0]) 4 32 Tryz.underlying29 HIC.out HZC.out.1 HZC.out.2.1 HZC.out.2.2 rfl (by decide) _ 0 _ rfl hO nd _ _ rfl (HPW.out wK3 hpK3) (fun i _ j _ => cpC_one _ j) (by have := HND.out; unfold maxLen; omega) (by have := HND.out; omega) (by have := hpK3.size; have := HLT.out; omega) ?_
  intro v' wA hownA hgA hsepA
  have hown : wA.ownsRow B3 82 4 v' nd (rwl 4 (fun i => cpC (P i)) nd) := by simpa only [Nat.zero_add, Nat.not_lt_zero, if_false, Nat.sub_zero] using hownA
  obtain ⟨oD, cD, hsD, _⟩ := own_shape hown
  subst hsD
  have hsD2 : ∀ b o c, Value.slice oD nd cD = .slice (some ⟨b, o, none⟩) nd c → b = B3 ∨ wK3.heap.size ≤ b := fun b o c e => (hsepA b (by rw [e]; rfl)).imp (fun h => (Option.some.inj h).symm) id
  have kA : KS (fun x => x = B2 ∨ x = B3) wK3 wA := KS.grew hgA (fun b e => Or.inr (Option.some.inj e).symm)
  have hpA : KS (fun x => x = B2 ∨ x = B3) w3 wA := hpK3.trans kA
  change K (Act.put _ (some 17) (.slice oD nd cD)) wA
  refine hK.out _ _ (fun _ => hpA) ?_
  simp only [Act.put, List.setIfInBounds_toArray]
  (try dsimp only [List.set_cons_zero, List.set_cons_succ])
  clear hK K hownA hsepA
  refine zt 13 18 (.agg #[.slice oA na cA, .slice oB nb cB, .slice oC nc cC, .slice oD nd cD]) rfl rfl (fun w hSw => by go_simp) hpA ?_
  simp only [Act.put, List.setIfInBounds_toArray]
  (try dsimp only [List.set_cons_zero, List.set_cons_succ])
  refine wpZ_one (i := 14) (by kernel_rfl) rfl (fun K hK => ?_)
  obtain ⟨wE, hwE, fE, kE, hthE⟩ := put_all #[.slice oA na cA, .slice oB nb cB, .slice oC nc cC, .slice oD nd cD] (HF2.out wA (KS.trans (S := fun x => x = B3) hr3 (KS.grew hgA (fun b e => (Option.some.inj e).symm)))) rfl
  rw [if_pos (show Region.wanted _ _ = true from rfl)]
  refine wp_store_mid 31 _ _ rfl B2 0 #[.slice oA na cA, .slice oB nb cB, .slice oC nc cC, .slice oD nd cD] rfl rfl hthE shtSize (one4s _ _ _ _ _ _ _ _ _ _ _ _) ?_
  rw [hwE]
  have hpE : KS (fun x => x = B2 ∨ x = B3) w3 wE := hpA.trans ⟨kE.1, kE.2.1, kE.2.2.1, kE.2.2.2.1, fun b hb hs => kE.2.2.2.2 b hb (fun e => hs (Or.inl e))⟩
  have kZ : KS (fun x => x = B2 ∨ x = B3) wK3 wE := kA.trans ⟨kE.1, kE.2.1, kE.2.2.1, kE.2.2.2.1, fun b hb hs => kE.2.2.2.2 b hb (fun e => hs (Or.inl e))⟩
  have HFE : Hid (wE.heap[B2]? = some (.cells #[.slice oA na cA, .slice oB nb cB, .slice oC nc cC, .slice oD nd cD] 31)) := fE
  have HBE : Hid (Below w.heap.size w wE) := HB3.out.trans (hpE.below HB3.out.size (fun x hx => by have := HLT.out; rcases hx with h | h <;> rw [h] <;> omega))
  have lK1 := hpK1.size
  have l0 := hp0.size
  have lt0 := HLT.out
  have lw3 := HB3.out.size
  have htB' : TabD wE (.slice oB nb cB) w.heap.size nb FB Lb Eb := (htB.ks kZ (fun x hx => by rcases hx with h | h <;> rw [h] <;> omega)).low (by omega)
  have htA' := htA.ks kZ (fun x hx => by rcases hx with h | h <;> rw [h] <;> omega)
  have lK2 := hpK2.size
  have htC' := htC.ks kZ (fun x hx => by rcases hx with h | h <;> rw [h] <;> omega)
  have hD' : Rs wE (.slice oD nd cD) 4 nd (fun i => cpC (P i)) := Rs.ks (own_Rs hown) (fun b o c e h => by have h1 := own_ge hown (j := b) (by rw [e]; rfl); omega) kE
  have lK3 := hpK3.size
  have l13 : wK1.heap.size ≤ wK3.heap.size := h13
  have l23 : wK2.heap.size ≤ wK3.heap.size := h23
  have HSE : Hid (TabD wE (.slice oB nb cB) w.heap.size nb FB Lb Eb ∧ ∀ w2, KS (fun b => ∃ i, i < nb ∧ (FB i).ownBlock = some b) wE w2 → Tab w2 (.slice oA na cA) na FA La Ea ∧ Tab w2 (.slice oC nc cC) nc FC Lc Ec ∧ Cps w2 (.slice oD nd cD) nd P) :=
    ⟨htB', fun w2 k2 => ⟨htA'.ksA hallA k2 (fun b hb ⟨i, hi, e⟩ => by have := lbB i b hi e; have := hb.2; omega), htC'.ksA hallC k2 (fun b hb ⟨i, hi, e⟩ => by have := lbB i b hi e; have := hb.1; omega), Rs.ks hD' (fun b o c e ⟨i, hi, e2⟩ => by have := lbB i b hi e2; rcases hsD2 b o c e with h | h <;> omega) k2⟩⟩
  simp only [Act.put]
  refine hK.out _ _ (fun _ => hpE) ?_
  clear hK K
  refine wpZ_done (by kernel_rfl) ?_ _
  clear htB' htA' htC' hD' hallA hallC lbB hsD2 h12 h13 h23 l13 l23 lK1 lK2 lK3 l0 lt0 lw3
  clear htA htB htC hown kA hpA hpE kE kZ fE hwE hthE hgA hp0 hpK1 hpK2 hpK3 hr0 hr1 hr2 hr3 hO
  go_wp2
  refine bodyPost_ret (v := .agg #[.slice oA na cA, .slice oB nb cB, .slice oC nc cC, .slice oD nd cD]) ?_ rfl ⟨oA, oB, oC, oD, cA, cB, cC, cD, FA, FB, FC, rfl, HSE.out, HBE.out⟩
  exact results_cell_row (fn := Tryz.f8) (p := 2) (ty := 31) rfl _ _ _ _ _ _ _ rfl HFE.out shtUnd rfl shtSize
end Go.Proofs.YtgldibfpidmfhaaGreatDoor

/- A table whose lists are changed in place. -/
namespace Go.Proofs.YtgldibfpidmfhaaGreatDoor
open Go.RowKit
/-- A list that lies in a block of its own. -/
def LbE (w : World) (v : Value) (n : Nat) (f : Nat → Nat) (base : Nat) : Prop :=
  (v = .slice none 0 0 ∧ n = 0) ∨ ∃ (g c : Nat) (cur : Array Value), v = .slice (some ⟨g, 0, none⟩) n c ∧ n ≤ c ∧ c ≤ maxLen ∧ base ≤ g ∧ w.heap[g]? = some (.cells cur 50) ∧ cur.size = c * 4 ∧ ∀ i, i < n → ∀ j, j < 4 → cur[i * 4 + j]? = some (.int .u64 ((limb j (f i) : Nat) : Int))
theorem own_LbE {w : World} {base n : Nat} {v : Value} {f : Nat → Nat} (h : w.ownsRow base 50 4 v n (els f n)) : LbE w v n f base := by
  obtain ⟨_, h⟩ := h
  rcases h with ⟨rfl, h0⟩ | ⟨g, c, cur, rfl, hb, hg, hc, hm, hs, ht⟩
  · exact Or.inl ⟨rfl, h0⟩
  · refine Or.inr ⟨g, c, cur, rfl, hc, hm, hb, hg, hs, fun i hi j hj => ?_⟩
    have h1 : cur[i * 4 + j]? = (els f n)[i * 4 + j]? := by rw [← ht, List.getElem?_take_of_lt (by omega), Array.getElem?_toList]
    rw [els_get f n i j hi hj] at h1
    exact h1
theorem LbE.es {w : World} {base n : Nat} {v : Value} {f : Nat → Nat} (h : LbE w v n f base) : Es w v n f := by
  rcases h with ⟨rfl, h0⟩ | ⟨g, c, cur, rfl, hc, hm, hb, hg, hs, hf⟩
  · exact Or.inl ⟨rfl, h0⟩
  · refine Or.inr ⟨g, 0, c, rfl, hc, hm, (Array.getElem?_eq_some_iff.1 hg).1, fun i hi j hj => ?_⟩
    rw [Nat.zero_add]
    simp [World.cell?, hg, hf i hi j hj]
theorem LbE.keep {w w' : World} {base n : Nat} {v : Value} {f : Nat → Nat} (h : LbE w v n f base) (hk : ∀ g, v.ownBlock = some g → w'.heap[g]? = w.heap[g]?) : LbE w' v n f base := by
  rcases h with h | ⟨g, c, cur, rfl, hc, hm, hb, hg, hs, hf⟩
  · exact Or.inl h
  · exact Or.inr ⟨g, c, cur, rfl, hc, hm, hb, (hk g rfl).trans hg, hs, hf⟩
theorem LbE.lt {w : World} {base n : Nat} {v : Value} {f : Nat → Nat} (h : LbE w v n f base) {g : Nat} (hg : v.ownBlock = some g) : base ≤ g ∧ g < w.heap.size := by
  rcases h with ⟨rfl, _⟩ | ⟨g', c, cur, rfl, hc, hm, hb, hg', hs, hf⟩
  · cases hg
  · cases hg
    exact ⟨hb, (Array.getElem?_eq_some_iff.1 hg').1⟩
theorem LbE.congr {w : World} {base n : Nat} {v : Value} {f g : Nat → Nat} (h : LbE w v n f base) (he : ∀ i, i < n → g i = f i) : LbE w v n g base := by
  rcases h with h | ⟨g', c, cur, hv, hc, hm, hb, hg', hs, hf⟩
  · exact Or.inl h
  · exact Or.inr ⟨g', c, cur, hv, hc, hm, hb, hg', hs, fun i hi j hj => by rw [he i hi]; exact hf i hi j hj⟩
/-- An element of it. -/
theorem LbE.at {w : World} {base n : Nat} {v : Value} {f : Nat → Nat} (h : LbE w v n f base) {k : Nat} (hk : k < n) : ∃ g c, v = .slice (some ⟨g, 0, none⟩) n c ∧ g < w.heap.size ∧ (∀ o, w.frozen? ⟨g, o, none⟩ = false) ∧ ∀ j, j < 4 → w.cell? ⟨g, k * 4 + j, none⟩ = some (.int .u64 ((limb j (f k) : Nat) : Int)) := by
  rcases h with ⟨_, h0⟩ | ⟨g, c, cur, rfl, hc, hm, hb, hg, hs, hf⟩
  · omega
  · exact ⟨g, c, rfl, (Array.getElem?_eq_some_iff.1 hg).1, fun o => by simp [World.frozen?, hg], fun j hj => by simp [World.cell?, hg, hf k hk j hj]⟩
theorem LbE.put {w : World} {base n g c : Nat} {f : Nat → Nat} (h : LbE w (.slice (some ⟨g, 0, none⟩) n c) n f base) {k : Nat} (hk : k < n) (x : Nat) : ∃ w', (((w.setCell ⟨g, k * 4, none⟩ (.int .u64 ((limb 0 x : Nat) : Int))).setCell ⟨g, k * 4 + 1, none⟩ (.int .u64 ((limb 1 x : Nat) : Int))).setCell ⟨g, k * 4 + 2, none⟩ (.int .u64 ((limb 2 x : Nat) : Int))).setCell ⟨g, k * 4 + 3, none⟩ (.int .u64 ((limb 3 x : Nat) : Int)) = w' ∧ LbE w' (.slice (some ⟨g, 0, none⟩) n c) n (fun i => if i = k then x else f i) base ∧ KS (fun b => b = g) w w' := by
  have key : ∀ (w : World) (o : Nat) (v : Value), KS (fun x => x = g) w (w.setCell ⟨g, o, none⟩ v) := fun w o v => KS.setCell w ⟨g, o, none⟩ v rfl
  refine ⟨_, rfl, ?_, (((key _ _ _).trans (key _ _ _)).trans (key _ _ _)).trans (key _ _ _)⟩
  rcases h with ⟨h, _⟩ | ⟨g', c', cur, hv, hc, hm, hb, hg, hs, hf⟩
  · cases h
  cases hv
  refine Or.inr ⟨g, c, (((cur.setIfInBounds (k * 4) (.int .u64 ((limb 0 x : Nat) : Int))).setIfInBounds (k * 4 + 1) (.int .u64 ((limb 1 x : Nat) : Int))).setIfInBounds (k * 4 + 2) (.int .u64 ((limb 2 x : Nat) : Int))).setIfInBounds (k * 4 + 3) (.int .u64 ((limb 3 x : Nat) : Int)), rfl, hc, hm, hb, ?_, by simp [hs], ?_⟩
  · simp [World.setCell, Array.getElem?_modify, hg]
  · intro i hi j hj
    have hlt : i * 4 + j < cur.size := by rw [hs]; omega
    dsimp only
    by_cases e : i = k
    · subst e
      rw [if_pos rfl]
      have hj4 : j = 0 ∨ j = 1 ∨ j = 2 ∨ j = 3 := by omega
      rcases hj4 with rfl | rfl | rfl | rfl
      all_goals simp [Array.getElem?_setIfInBounds, hs]
      all_goals omega
    · rw [if_neg e, ← hf i hi j hj]
      rw [Array.getElem?_setIfInBounds_ne (by omega), Array.getElem?_setIfInBounds_ne (by omega), Array.getElem?_setIfInBounds_ne (by omega), Array.getElem?_setIfInBounds_ne (by omega)]
/-- A table whose lists lie in blocks of their own, each another. -/
def TabL (w : World) (v : Value) (base m : Nat) (F : Nat → Value) (L : Nat → Nat) (E : Nat → Nat → Nat) : Prop :=
  Rs w v 1 m (fun i _ => F i) ∧ (∀ b o c, v = .slice (some ⟨b, o, none⟩) m c → ∀ i, i < m → (F i).ownBlock ≠ some b) ∧ (∀ i, i < m → LbE w (F i) (L i) (E i) base) ∧ ∀ i j b, i < m → j < i → (F i).ownBlock = some b → (F j).ownBlock ≠ some b
section
variable {w w' : World} {v : Value} {base m : Nat} {F : Nat → Value} {L : Nat → Nat} {E : Nat → Nat → Nat}
theorem TabD.tabL (h : TabD w v base m F L E) : TabL w v base m F L E := by
  refine ⟨own_Rs h.1.1, fun b o c hv i hi e => ?_, fun i hi => own_LbE (h.2.1 i hi), h.2.2⟩
  rcases own_sep (h.2.1 i hi) (h.1.2 i hi) with h1 | h1
  · rw [h1] at e; cases e
  · exact h1 (e.trans (by rw [hv]; rfl))
theorem TabL.tab (h : TabL w v base m F L E) : Tab w v m F L E := ⟨h.1, fun i hi => Or.inl (h.2.2.1 i hi).es⟩
theorem TabL.below (h : TabL w v base m F L E) (hb : Below w.heap.size w w') : TabL w' v base m F L E :=
  ⟨h.1.below hb, h.2.1, fun i hi => (h.2.2.1 i hi).keep (fun g hg => hb.block g ((h.2.2.1 i hi).lt hg).2), h.2.2.2⟩
theorem TabL.congr {E2 : Nat → Nat → Nat} (h : TabL w v base m F L E) (he : ∀ i, i < m → ∀ j, j < L i → E2 i j = E i j) : TabL w v base m F L E2 :=
  ⟨h.1, h.2.1, fun i hi => (h.2.2.1 i hi).congr (he i hi), h.2.2.2⟩
theorem TabL.put {i k x : Nat} (h : TabL w v base m F L E) (hi : i < m) (hk : k < L i) : ∃ g c, F i = .slice (some ⟨g, 0, none⟩) (L i) c ∧ g < w.heap.size ∧ (∀ o, w.frozen? ⟨g, o, none⟩ = false) ∧ (∀ j, j < 4 → w.cell? ⟨g, k * 4 + j, none⟩ = some (.int .u64 ((limb j (E i k) : Nat) : Int))) ∧
    ∃ w', (((w.setCell ⟨g, k * 4, none⟩ (.int .u64 ((limb 0 x : Nat) : Int))).setCell ⟨g, k * 4 + 1, none⟩ (.int .u64 ((limb 1 x : Nat) : Int))).setCell ⟨g, k * 4 + 2, none⟩ (.int .u64 ((limb 2 x : Nat) : Int))).setCell ⟨g, k * 4 + 3, none⟩ (.int .u64 ((limb 3 x : Nat) : Int)) = w' ∧ TabL w' v base m F L (fun a b => if a = i ∧ b = k then x else E a b) ∧ KS (fun b => b = g) w w' := by
  have hl := h.2.2.1 i hi
  obtain ⟨g, c, hF, hg, hz, hc⟩ := hl.at hk
  have hl' := hl
  rw [hF] at hl'
  obtain ⟨w', hw, hp, hK⟩ := hl'.put hk x
  have hob : (F i).ownBlock = some g := by rw [hF]; rfl
  refine ⟨g, c, hF, hg, hz, hc, w', hw, ⟨Rs.ks h.1 (fun b o c e hb => ?_) hK, h.2.1, fun a ha => ?_, h.2.2.2⟩, hK⟩
  · exact h.2.1 b o c e i hi (by rw [hob, hb])
  · by_cases e : a = i
    · subst e
      rw [← hF] at hp
      exact hp.congr (fun b _ => by dsimp only; by_cases e2 : b = k <;> simp [e2])
    · refine ((h.2.2.1 a ha).keep (fun g' hg' => hK.block ((h.2.2.1 a ha).lt hg').2 (fun e2 => ?_))).congr (fun b _ => by dsimp only; rw [if_neg (fun q => e q.1)])
      subst e2
      rcases Nat.lt_or_ge a i with h1 | h1
      · exact h.2.2.2 i a g' hi h1 hob hg'
      · exact h.2.2.2 a i g' ha (by omega) hg' hob
end
/-- What of a table is changed, up to list i and element k of it. -/
def mdE (s : Nat) (E : Nat → Nat → Nat) (i k a b : Nat) : Nat := if a < i ∨ (a = i ∧ b < k) then mdP s (E a b) else E a b
theorem mdE_step (s : Nat) (E : Nat → Nat → Nat) (i k a b : Nat) : mdE s E i (k + 1) a b = if a = i ∧ b = k then mdP s (E i k) else mdE s E i k a b := by
  unfold mdE
  by_cases h : a = i ∧ b = k
  · obtain ⟨rfl, rfl⟩ := h
    rw [if_pos (by omega), if_pos ⟨rfl, rfl⟩]
  · rw [if_neg h]
    by_cases h2 : a < i ∨ (a = i ∧ b < k)
    · rw [if_pos h2, if_pos (by omega)]
    · rw [if_neg h2, if_neg (by omega)]
theorem mdE_here (s : Nat) (E : Nat → Nat → Nat) (i k : Nat) : mdE s E i k i k = E i k := if_neg (by omega)
theorem mdE_next (s : Nat) (E : Nat → Nat → Nat) (L : Nat → Nat) (i a b : Nat) (h : b < L a) : mdE s E (i + 1) 0 a b = mdE s E i (L i) a b := by
  unfold mdE
  by_cases h2 : a < i ∨ (a = i ∧ b < L i)
  · rw [if_pos h2, if_pos (by omega)]
  · rw [if_neg h2]
    refine if_neg (fun h3 => h2 ?_)
    rcases h3 with h3 | h3
    · rcases Nat.lt_or_ge a i with h4 | h4
      · exact Or.inl h4
      · have e : a = i := by omega
        subst e
        exact Or.inr ⟨rfl, h⟩
    · omega
theorem mdE_zero (s : Nat) (E : Nat → Nat → Nat) (a b : Nat) : mdE s E 0 0 a b = E a b := if_neg (by omega)
theorem mdE_mod (s : Nat) (E : Nat → Nat → Nat) (i k a b : Nat) : mdE s E i k a b % modN s = E a b % modN s := by
  unfold mdE
  split
  · exact mdP_mod _ _
  · rfl
theorem mod_little (s : Nat) (hs : s < 2) : modN s < 4294967296 := by
  have h : s = 0 ∨ s = 1 := by omega
  rcases h with rfl | rfl <;> decide
theorem mdP_lt (s x : Nat) (hs : s < 2) : mdP s x < 8589934592 := by
  have h1 := mod_little s hs
  have h2 : addP s x 0 < modN s := addP_lt _ _ _
  unfold mdP
  omega
/-- The words of a number with the modulus put to it. -/
theorem mdP_limb (s x : Nat) (hs : s < 2) : limb 0 (mdP s x) = limb 0 (addP s x 0) + limb 0 (modN s) ∧ limb 0 (addP s x 0) + limb 0 (modN s) < 18446744073709551616 ∧ limb 1 (mdP s x) = limb 1 (addP s x 0) ∧ limb 2 (mdP s x) = limb 2 (addP s x 0) ∧ limb 3 (mdP s x) = limb 3 (addP s x 0) := by
  have h1 := mod_little s hs
  have h2 : addP s x 0 < modN s := addP_lt _ _ _
  have h3 := mdP_lt s x hs
  have e : mdP s x = addP s x 0 + modN s := rfl
  rw [e] at h3 ⊢
  have L0 : ∀ y, y < 8589934592 → limb 0 y = y ∧ limb 1 y = 0 ∧ limb 2 y = 0 ∧ limb 3 y = 0 := fun y hy => by
    unfold limb
    refine ⟨?_, ?_, ?_, ?_⟩
    · rw [Nat.pow_zero, Nat.div_one]; exact Nat.mod_eq_of_lt (by omega)
    · rw [Nat.div_eq_of_lt (by rw [Nat.pow_one]; omega), Nat.zero_mod]
    · rw [Nat.div_eq_of_lt (Nat.lt_of_lt_of_le hy (by decide)), Nat.zero_mod]
    · rw [Nat.div_eq_of_lt (Nat.lt_of_lt_of_le hy (by decide)), Nat.zero_mod]
  obtain ⟨a0, a1, a2, a3⟩ := L0 (addP s x 0) (by omega)
  obtain ⟨b0, _, _, _⟩ := L0 (modN s) (by omega)
  obtain ⟨c0, c1, c2, c3⟩ := L0 (addP s x 0 + modN s) (by omega)
  rw [a0, a1, a2, a3, b0, c0, c1, c2, c3]
  exact ⟨rfl, by omega, rfl, rfl, rfl⟩
end Go.Proofs.YtgldibfpidmfhaaGreatDoor

