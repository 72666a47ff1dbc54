/- CurveSums: for every curve's number and any two points the call returns true: On, Neg and Add answer as the reference does. Condition: the variables of packages field and curve read as the text lays them when the call begins (the card ties them). -/
/- Slices of bytes: what SameBytes does. -/
import Derived.Test.YtaeembdabnomaaaGreatDoorStep
import Derived.Test.YtaeembdabnomaaaGreatDoorChecked
import Derived.LoopN
import Derived.Deep.QuietTactic
import Derived.BigQuiet
import Derived.Deep.Draws
import Derived.OwnWalk
import Derived.Laws.AppendOwnNone
import Derived.Test.YtaeembdabnomaaaGreatDoorT0
import Derived.Laws.MakeOwn
import Derived.Test.YtaeembdabnomaaaGreatDoorK4
import Derived.Test.YtaeembdabnomaaaGreatDoorT4
import Derived.Test.YtaeembdabnomaaaGreatDoorT3
import Derived.Test.YtaeembdabnomaaaGreatDoorT2
import Derived.Test.YtaeembdabnomaaaGreatDoorRows
import Derived.ProofKit
import Derived.LaidMore
import Derived.OpenShut
import Derived.Stop.Joined
import Derived.Test.YtaeembdabnomaaaGreatDoorNum
import Derived.Test.YtaeembdabnomaaaGreatDoorTie
import Derived.Test.YtaeembdabnomaaaGreatDoorCards
import Derived.SevenTiedAt
import Derived.SizedLaws
import Derived.Laws.IdiomArrays
namespace Go.Proofs.YtaeembdabnomaaaGreatDoor
open Go.RowKit

/-- v is a slice of n bytes, f 0 and on. -/
def Bs (w : World) (v : Value) (n : Nat) (f : Nat → Nat) : Prop :=
  (v = .slice none 0 0 ∧ n = 0) ∨ ∃ (a : Addr) (c : Nat), v = .slice (some a) n c ∧ n ≤ c ∧ c ≤ maxLen ∧ a.block < w.heap.size ∧ ∀ i, i < n → w.cell? (a.add i) = some (.int .u8 ((f i : Nat) : Int))
/-- The first n bytes are the same. -/
def sameB (f g : Nat → Nat) (n : Nat) : Bool := decide (∀ i, i < n → f i = g i)

theorem drewN_drewN (w : World) (i j : Nat) : (w.drewN i).drewN j = w.drewN (i + j) := World.drewN_drewN w i j

set_option maxHeartbeats 2000000 in
theorem same_len (v u : Value) (n m cn cm : Nat) (a b : Addr) (hv : v = .slice (some a) n cn) (hu : u = .slice (some b) m cm) (hne : ¬ n = m) (w : World) :
    Calls Tryz.prog 21 #[v, u] w fun e w' => e = .returned (.bool false) ∧ w' = w := by
  subst hv hu
  have h1 : ((n : Int) != (m : Int)) = true := by simp; omega
  clear hne
  go_enter Tryz.func21, Tryz.ntmps21
  go_wp2
  go_ret
  exact ⟨rfl, rfl⟩

set_option maxHeartbeats 4000000 in
theorem same_some (n cn cm : Nat) (a b : Addr) (f g : Nat → Nat) (hn : n ≤ maxLen) (w : World) (ha : ∀ i, i < n → w.cell? (a.add i) = some (.int .u8 ((f i : Nat) : Int))) (hb : ∀ i, i < n → w.cell? (b.add i) = some (.int .u8 ((g i : Nat) : Int))) :
    Calls Tryz.prog 21 #[.slice (some a) n cn, .slice (some b) n cm] w fun e w' => e = .returned (.bool (sameB f g n)) ∧ ∃ k, w' = w.drewN k := by
  unfold maxLen at hn
  have HA := (show Hid _ from ha); have HB := (show Hid _ from hb)
  clear ha hb
  go_enter Tryz.func21, Tryz.ntmps21
  go_wp2
  go_loopw [5] (fun i wr => ∃ k : Nat, i = .int .i64 (k : Int) ∧ k ≤ n ∧ Hid (∀ j, j < k → f j = g j) ∧ ∃ d, wr = w.drewN d) (fun i _ => n - (intOf i).toNat)
  case atStart => exact ⟨0, rfl, by omega, fun j hj => by omega, 0, rfl⟩
  case round =>
    obtain ⟨k, rfl, hk, hs, d, rfl⟩ := hrel
    by_cases hlt : k < n
    · have hki : (k : Int) < (n : Int) := by omega
      have ca : w.cell? (a.add k) = some (.int .u8 ((f k : Nat) : Int)) := HA.out k hlt
      have cb : w.cell? (b.add k) = some (.int .u8 ((g k : Nat) : Int)) := HB.out k hlt
      by_cases he : f k = g k
      · have hq : (((f k : Nat) : Int) != ((g k : Nat) : Int)) = false := by simp [he]
        have HE := (show Hid _ from he)
        clear he
        obtain ⟨x, ex⟩ : ∃ x : Int, x = ((f k : Nat) : Int) := ⟨_, rfl⟩
        obtain ⟨y, ey⟩ : ∃ y : Int, y = ((g k : Nat) : Int) := ⟨_, rfl⟩
        rw [← ex] at ca hq
        rw [← ey] at cb hq
        clear ex ey
        go_wp2_with fail
        go_quiet (fail)
        go_wp2
        go_roundw
        case measure => simp [intOf]; omega
        case rel =>
          refine ⟨k + 1, by go_num, by omega, fun j hj => ?_, _, rfl⟩
          rcases Nat.lt_or_ge j k with h | h
          · exact hs.out j h
          · rw [show j = k from by omega]; exact HE.out
      · have hq : (((f k : Nat) : Int) != ((g k : Nat) : Int)) = true := by simp; omega
        have HE : Hid (sameB f g n = false) := by
          show _ = _
          unfold sameB
          simp only [decide_eq_false_iff_not]
          exact fun h => he (h k hlt)
        clear he
        obtain ⟨x, ex⟩ : ∃ x : Int, x = ((f k : Nat) : Int) := ⟨_, rfl⟩
        obtain ⟨y, ey⟩ : ∃ y : Int, y = ((g k : Nat) : Int) := ⟨_, rfl⟩
        rw [← ex] at ca hq
        rw [← ey] at cb hq
        clear ex ey
        go_wp2_with fail
        go_quiet (fail)
        go_wp2
        go_ret
        exact ⟨by rw [HE.out]; rfl, _, drewN_drewN _ _ _⟩
    · have hki : ¬ (k : Int) < (n : Int) := by omega
      have hkn : k = n := by omega
      have HE : Hid (sameB f g n = true) := by
        show _ = _
        unfold sameB
        simp only [decide_eq_true_eq]
        rw [← hkn]
        exact hs.out
      clear hkn hlt
      go_wp2
      go_ret
      exact ⟨by rw [HE.out]; rfl, d, rfl⟩

theorem Bs.below {w w' : World} {v : Value} {n : Nat} {f : Nat → Nat} (h : Bs w v n f) (hb : Below w.heap.size w w') : Bs w' v n f := by
  rcases h with h | ⟨a, c, hv, h1, h2, h3, h4⟩
  · exact Or.inl h
  · refine Or.inr ⟨a, c, hv, h1, h2, Nat.lt_of_lt_of_le h3 hb.size, fun i hi => ?_⟩
    rw [hb.cell (p := a.add i) (by unfold Addr.add; split <;> exact h3)]
    exact h4 i hi
set_option maxHeartbeats 2000000 in
theorem same_nn (w : World) : Calls Tryz.prog 21 #[.slice none 0 0, .slice none 0 0] w fun e w' => e = .returned (.bool true) ∧ w' = w := by
  go_enter Tryz.func21, Tryz.ntmps21
  go_wp2
  go_loop [5] (fun i => i = .int .i64 0) (fun _ => 0)
  case atStart => rfl
  case round =>
    subst hrel
    go_wp2
    go_ret
    exact ⟨rfl, rfl⟩
set_option maxHeartbeats 2000000 in
theorem same_ns (m c : Nat) (b : Addr) (w : World) : Calls Tryz.prog 21 #[.slice none 0 0, .slice (some b) m c] w fun e w' => e = .returned (.bool (decide (m = 0))) ∧ w' = w := by
  by_cases h : m = 0
  · subst h
    go_enter Tryz.func21, Tryz.ntmps21
    go_wp2
    go_loop [5] (fun i => i = .int .i64 0) (fun _ => 0)
    case atStart => rfl
    case round =>
      subst hrel
      go_wp2
      go_ret
      exact ⟨rfl, rfl⟩
  · have h1 : ((0 : Int) != (m : Int)) = true := by simp; omega
    rw [show decide (m = 0) = false from by simp [h]]
    clear h
    go_enter Tryz.func21, Tryz.ntmps21
    go_wp2
    go_ret
    exact ⟨rfl, rfl⟩

end Go.Proofs.YtaeembdabnomaaaGreatDoor

/- Slices of bytes: what CopyBytes does. -/
namespace Go.Proofs.YtaeembdabnomaaaGreatDoor
open Go.RowKit

def bys (f : Nat → Nat) (n : Nat) : List Value := (List.range n).map (fun i => Value.int .u8 ((f i : Nat) : Int))
theorem bys_get (f : Nat → Nat) (n i : Nat) (h : i < n) : (bys f n)[i]? = some (.int .u8 ((f i : Nat) : Int)) := by simp [bys, h]
theorem bys_len (f : Nat → Nat) (n : Nat) : (bys f n).length = n := by simp [bys]
theorem byteInfo : ∃ i : TypeInfo, Tryz.prog.info? 5 = some i ∧ i.zero = some (.int .u8 0) ∧ i.size = 1 ∧ i.bytes = 1 := by
  have h : (Tryz.prog.info? 5).map (fun i => (i.zero, i.size, i.bytes)) = some (some (.int .u8 0), 1, 1) := by kernel_rfl
  obtain ⟨i, hi, he⟩ := Option.map_eq_some_iff.mp h
  simp only [Prod.mk.injEq] at he
  exact ⟨i, hi, he.1, he.2.1, he.2.2⟩
theorem new_block' (w : World) (o : Obj) : (w.alloc o).heap[w.heap.size]? = some o := by
  show (w.heap.push o)[w.heap.size]? = _; simp
theorem own_block_ge' {w : World} {base : Nat} {e : TypeId} {size : Nat} {v : Value} {n : Nat} {xs : List Value} (h : w.ownsRow base e size v n xs) {j : Nat} (hj : v.ownBlock = some j) : base ≤ j := by
  obtain ⟨_, h⟩ := h
  rcases h with ⟨rfl, _⟩ | ⟨g, c, cur, rfl, hb, _⟩
  · simp [Value.ownBlock] at hj
  · simp [Value.ownBlock] at hj; omega

set_option maxHeartbeats 2000000 in
theorem copy_some (n cn : Nat) (a : Addr) (f : Nat → Nat) (hn : n ≤ 140737488351232) (w : World) (ha : a.block < w.heap.size) (hc : ∀ i, i < n → w.cell? (a.add i) = some (.int .u8 ((f i : Nat) : Int))) :
    Calls Tryz.prog 25 #[.slice (some a) n cn] w fun e w' => ∃ v, e = .returned v ∧ w'.ownsRow w.heap.size 5 1 v n (bys f n) ∧ Below w.heap.size w w' := by
  obtain ⟨i0, hi, hz0, hz1, hz2⟩ := byteInfo
  have HI := (show Hid _ from hi); have HZ := (show Hid _ from And.intro hz0 (And.intro hz1 hz2)); clear hi hz0 hz1 hz2
  have HC := (show Hid _ from hc); clear hc
  have hown0 : (w.alloc (.cells #[] 5)).ownsRow w.heap.size 5 1 (.slice (some ⟨w.heap.size, 0, none⟩) 0 0) 0 [] :=
    ⟨rfl, Or.inr ⟨w.heap.size, 0, #[], rfl, Nat.le_refl _, new_block' _ _, Nat.le_refl _, by decide, rfl, rfl⟩⟩
  have HO : Hid ((w.alloc (.cells #[] 5)).ownsRow w.heap.size 5 1 (.slice (some ⟨w.heap.size, 0, none⟩) 0 0) 0 []) := hown0
  clear hown0
  go_enter Tryz.func25, Tryz.ntmps25
  go_wp2_with (first
    | (at_builtin; refine wpList_append_own _ rfl _ _ 34 rfl w.heap.size 5 i0 (.int .u8 0) 1 1 Tryz.underlying34 HI.out HZ.out.1 HZ.out.2.1 HZ.out.2.2 rfl (by decide) _ _ _ rfl HO.out a n cn (bys f n) rfl ?c0 ?c1 ?c2 ?c3 ?c4 ?c5 ?_)
    | go_in)
  case c0 => rw [bys_len]; omega
  case c1 =>
    intro j u hj
    have hjn : j < n := by
      rcases Nat.lt_or_ge j n with h | h
      · exact h
      · rw [List.getElem?_eq_none (by rw [bys_len]; exact h)] at hj; cases hj
    rw [bys_get f n j hjn] at hj
    cases hj
    have hb : Below w.heap.size w (w.alloc (.cells #[] 5)) := (Below.refl _ _).alloc (Nat.le_refl _) _
    rw [hb.cell (p := a.add j) (by unfold Addr.add; split <;> exact ha)]
    exact HC.out j hjn
  case c2 => intro u hu; unfold bys at hu; obtain ⟨i, _, rfl⟩ := List.mem_map.mp hu; rfl
  case c3 => unfold maxLen; omega
  case c4 => omega
  case c5 => simp
  intro v' w2 hown' hgrow _
  go_wp2
  go_ret
  refine ⟨_, rfl, ?_, ?_⟩
  · exact hown'
  · exact ((Below.refl _ w).alloc (Nat.le_refl _) _).grown hgrow (by simp) (fun j hj => own_block_ge' HO.out hj)

set_option maxHeartbeats 2000000 in
theorem copy_nil (w : World) :
    Calls Tryz.prog 25 #[.slice none 0 0] w fun e w' => ∃ v, e = .returned v ∧ w'.ownsRow w.heap.size 5 1 v 0 [] ∧ Below w.heap.size w w' := by
  obtain ⟨i0, hi, _, _, _⟩ := byteInfo
  have HI := (show Hid _ from hi); clear hi
  have hown0 : (w.alloc (.cells #[] 5)).ownsRow w.heap.size 5 1 (.slice (some ⟨w.heap.size, 0, none⟩) 0 0) 0 [] :=
    ⟨rfl, Or.inr ⟨w.heap.size, 0, #[], rfl, Nat.le_refl _, new_block' _ _, Nat.le_refl _, by decide, rfl, rfl⟩⟩
  have HO : Hid ((w.alloc (.cells #[] 5)).ownsRow w.heap.size 5 1 (.slice (some ⟨w.heap.size, 0, none⟩) 0 0) 0 []) := hown0
  clear hown0
  go_enter Tryz.func25, Tryz.ntmps25
  go_wp2_with (first
    | (at_builtin; refine wpList_append_own_none rfl _ _ 34 rfl w.heap.size 5 i0 1 Tryz.underlying34 HI.out _ _ _ rfl HO.out rfl ?_)
    | go_in)
  go_wp2
  go_ret
  exact ⟨_, rfl, HO.out, (Below.refl _ w).alloc (Nat.le_refl _) _⟩
/-- A slice of the call's own, as bytes. -/
theorem own_Bs {w : World} {base n : Nat} {v : Value} {f : Nat → Nat} (h : w.ownsRow base 5 1 v n (bys f n)) : Bs w v n f := by
  obtain ⟨_, h⟩ := h
  rcases h with ⟨rfl, h0⟩ | ⟨g, c, cur, rfl, hb, hg, hc, hm, hs, ht⟩
  · exact Or.inl ⟨rfl, h0⟩
  · refine Or.inr ⟨⟨g, 0, none⟩, c, rfl, hc, hm, ?_, fun i hi => ?_⟩
    · rcases Nat.lt_or_ge g w.heap.size with hl | hl
      · exact hl
      · rw [Array.getElem?_eq_none hl] at hg; cases hg
    · have h1 : cur[i]? = (bys f n)[i]? := by rw [← ht]; simp [hi]
      rw [bys_get f n i hi] at h1
      have hadd : (⟨g, 0, none⟩ : Addr).add i = ⟨g, i, none⟩ := by unfold Addr.add; split <;> simp_all
      rw [hadd]
      simp [World.cell?, hg, h1]
/-- CopyBytes: the same bytes in new memory. -/
theorem copy_any (n : Nat) (v : Value) (f : Nat → Nat) (hn : n ≤ 140737488351232) (w : World) (h : Bs w v n f) :
    Calls Tryz.prog 25 #[v] w fun e w' => ∃ v', e = .returned v' ∧ w'.ownsRow w.heap.size 5 1 v' n (bys f n) ∧ Below w.heap.size w w' := by
  rcases h with ⟨rfl, rfl⟩ | ⟨a, c, rfl, _, _, hb, hc⟩
  · exact copy_nil w
  · exact copy_some n c a f hn w hb hc

end Go.Proofs.YtaeembdabnomaaaGreatDoor

/- Blocks of bytes; what field.Encode does. -/
namespace Go.Proofs.YtaeembdabnomaaaGreatDoor
open Go.RowKit

/-- Block b is an array of n bytes, f 0 and on. -/
def BlkB (w : World) (t : TypeId) (b n : Nat) (f : Nat → Nat) : Prop :=
  ∃ c : Array Value, w.heap[b]? = some (.cells c t) ∧ c.size = n ∧ ∀ i, i < n → c[i]? = some (.int .u8 ((f i : Nat) : Int))
section
variable {w w' : World} {t : TypeId} {b n : Nat} {f g : Nat → Nat}
theorem BlkB.lt (h : BlkB w t b n f) : b < w.heap.size := by
  obtain ⟨c, hc, _⟩ := h
  rcases Nat.lt_or_ge b w.heap.size with hl | hl
  · exact hl
  · rw [Array.getElem?_eq_none hl] at hc; cases hc
theorem BlkB.cell (h : BlkB w t b n f) : ∀ i, i < n → w.cell? ⟨b, i, none⟩ = some (.int .u8 ((f i : Nat) : Int)) := by
  obtain ⟨c, hc, hs, hf⟩ := h
  intro i hi
  simp [World.cell?, hc, hf i hi]
theorem BlkB.frozen (h : BlkB w t b n f) : ∀ o, w.frozen? ⟨b, o, none⟩ = false := by
  obtain ⟨c, hc, _⟩ := h
  intro o
  simp [World.frozen?, hc]
theorem BlkB.below {m : Nat} (h : BlkB w t b n f) (hb : Below m w w') (hm : b < m) : BlkB w' t b n f := by
  obtain ⟨c, hc, hs⟩ := h
  exact ⟨c, by rw [hb.block b hm]; exact hc, hs⟩
theorem BlkB.belowAll (h : BlkB w t b n f) (hb : Below w.heap.size w w') : BlkB w' t b n f := h.below hb h.lt
theorem BlkB.drew (h : BlkB w t b n f) : BlkB w.drew t b n f := h
theorem BlkB.alloc (h : BlkB w t b n f) (o : Obj) : BlkB (w.alloc o) t b n f := h.below ((Below.refl _ _).alloc (Nat.le_refl _) o) h.lt
theorem BlkB.newAt (w : World) (t : TypeId) (b n : Nat) (f : Nat → Nat) (c : Array Value) (hb : b = w.heap.size) (hs : c.size = n) (hf : ∀ i, i < n → c[i]? = some (.int .u8 ((f i : Nat) : Int))) : BlkB (w.alloc (.cells c t)) t b n f :=
  ⟨c, by subst hb; show (w.heap.push _)[w.heap.size]? = _; simp, hs, hf⟩
theorem BlkB.other (h : BlkB w t b n f) {a : Addr} (ha : b ≠ a.block) (v : Value) : BlkB (w.setCell a v) t b n f := by
  obtain ⟨c, hc, hs⟩ := h
  exact ⟨c, by rw [Below.heap_setCell w a v b ha]; exact hc, hs⟩
theorem BlkB.congr (h : BlkB w t b n f) (hg : ∀ i, i < n → g i = f i) : BlkB w t b n g := by
  obtain ⟨c, hc, hs, hf⟩ := h
  exact ⟨c, hc, hs, fun i hi => by rw [hf i hi, hg i hi]⟩
theorem BlkB.set (h : BlkB w t b n f) (k : Nat) (hk : k < n) (v : Nat) : BlkB (w.setCell ⟨b, k, none⟩ (.int .u8 ((v : Nat) : Int))) t b n (fun i => if i = k then v else f i) := by
  obtain ⟨c, hc, hs, hf⟩ := h
  refine ⟨c.setIfInBounds k (.int .u8 ((v : Nat) : Int)), ?_, by simp [hs], ?_⟩
  · simp [World.setCell, Array.getElem?_modify, hc]
  · intro i hi
    by_cases e : i = k
    · subst e; simp [hs, hi]
    · simp [e, Ne.symm (fun h => e h), hf i hi]
end


theorem own_blkB {w : World} {base g n : Nat} {e : TypeId} {xs : List Value} {f : Nat → Nat} (h : w.ownsRow base e 1 (.slice (some ⟨g, 0, none⟩) n n) n xs) (hf : ∀ i, i < n → xs[i]? = some (.int .u8 ((f i : Nat) : Int))) (hn : 0 < n) : BlkB w e g n f ∧ base ≤ g := by
  obtain ⟨hl, h⟩ := h
  rcases h with ⟨h0, h1⟩ | ⟨g', c, cur, h1, hb, hg, hc, _, hs, ht⟩
  · omega
  · cases h1
    refine ⟨⟨cur, hg, by omega, ?_⟩, hb⟩
    intro i hi
    rw [← hf i hi, ← ht]
    simp [hi]

/-- The bytes of a number, the least first. -/
def encB (x i : Nat) : Nat := x / 256 ^ i % 256
theorem encB_limb (x i : Nat) : limb (i / 8) x / 2 ^ (8 * (i % 8)) % 256 = encB x i := by
  unfold encB
  apply Nat.eq_of_testBit_eq
  intro t
  rw [show (256 : Nat) = 2 ^ 8 from by decide, ← Nat.pow_mul, Nat.testBit_mod_two_pow, Nat.testBit_mod_two_pow, Nat.testBit_div_two_pow, Nat.testBit_div_two_pow, limb_test]
  by_cases h : t < 8
  · simp [h, show t + 8 * (i % 8) < 64 from by omega]
    congr 1; omega
  · simp [h]
theorem enc_run (x q t : Nat) (hx : q / 2 ^ t % 256 = x) : IntKind.u8.wrap ((q : Int) / 2 ^ t) = (x : Int) := by
  have e : (q : Int) / 2 ^ t = ((q / 2 ^ t : Nat) : Int) := by simp
  rw [e, IntKind.wrap_u8, ← hx]
  generalize q / 2 ^ t = y
  omega

set_option maxHeartbeats 4000000 in
set_option maxRecDepth 20000 in
theorem fEncode_any (s a : Nat) (hs : s < 4) (ha : a < 115792089237316195423570985008687907853269984665640564039457584007913129639936) (w : World) (hg : Glob w) :
    Calls Tryz.prog 49 #[.int .i64 (s : Int), .agg #[.int .u64 ((limb 0 (a) : Nat) : Int), .int .u64 ((limb 1 (a) : Nat) : Int), .int .u64 ((limb 2 (a) : Nat) : Int), .int .u64 ((limb 3 (a) : Nat) : Int)]] w fun e w' => ∃ g, e = .returned (.slice (some ⟨g, 0, none⟩) 32 32) ∧ w.heap.size ≤ g ∧ BlkB w' 5 g 32 (encB (a % modN s)) ∧ Below w.heap.size w w' := by
  obtain ⟨i0, hi, hz0, hz1, hz2⟩ := byteInfo
  have HI := (show Hid _ from hi); have HZ := (show Hid _ from And.intro hz0 (And.intro hz1 hz2)); clear hi hz0 hz1 hz2
  have hgl := (modN_good s).lt
  have HM := fun w hg => modulus_any s hs w hg
  obtain ⟨m, em⟩ : ∃ m, m = modN s := ⟨_, rfl⟩
  rw [← em] at hgl HM ⊢
  clear em
  have EA := fun w => element_any m a hgl.1 hgl.2.2 ha w
  obtain ⟨x, ex⟩ : ∃ x, x = a % m := ⟨_, rfl⟩
  rw [← ex] at EA ⊢
  clear ex hgl
  have TE := fun w => toElem_any x w
  go_enter Tryz.func49, Tryz.ntmps49
  go_wp2_with fail
  obtain ⟨w0, hw0⟩ : ∃ w0 : World, w0 = w.alloc (.cells #[.int .u64 ((limb 0 (a) : Nat) : Int), .int .u64 ((limb 1 (a) : Nat) : Int), .int .u64 ((limb 2 (a) : Nat) : Int), .int .u64 ((limb 3 (a) : Nat) : Int)] 24) := ⟨_, rfl⟩
  have ba0 : Blk w0 24 w.heap.size (fun i => limb i a) := by rw [hw0]; exact Blk.newAt _ _ _ (fun i => limb i a) (by simp)
  have hb0 : Below w.heap.size w w0 := by rw [hw0]; exact (Below.refl _ _).alloc (Nat.le_refl _) _
  have hg0 : Glob w0 := by rw [hw0]; exact hg.alloc _
  rw [← hw0]
  clear hw0 hg
  refine (HM _ hg0).mono ?_
  rintro e w1 ⟨rfl, hb1⟩
  have ba1 := ba0.belowAll hb1
  have hbw1 := bStep hb0 hb1
  have la := ba1.lt
  clear ba0 hb0 hb1 hg0 HM
  have ca := ba1.cell
  obtain ⟨hA, hG⟩ := acell (w := w1) (n := w1.heap.size) (Nat.le_refl _)
  go_wp2_with fail
  refine (EA _).mono ?_
  rintro e w2 ⟨rfl, hb2⟩
  have hbw2 := bStep (bAlloc hbw1 _) hb2
  clear ba1 hbw1 hb2 ca hA hG la EA
  go_wp2_with fail
  refine (TE _).mono ?_
  rintro e w3 ⟨rfl, hb3⟩
  have hbw3 := bStep hbw2 hb3
  clear hbw2 hb3 TE
  go_upto_region 5 with fail
  obtain ⟨w4, hw4⟩ : ∃ w4 : World, w4 = w3.alloc (.cells #[.int .u64 ((limb 0 (x) : Nat) : Int), .int .u64 ((limb 1 (x) : Nat) : Int), .int .u64 ((limb 2 (x) : Nat) : Int), .int .u64 ((limb 3 (x) : Nat) : Int)] 24) := ⟨_, rfl⟩
  have bx4 : Blk w4 24 w3.heap.size (fun i => limb i x) := by rw [hw4]; exact Blk.new w3 _ (fun i => limb i x)
  have hbw4 : Below w.heap.size w w4 := by rw [hw4]; exact bAlloc hbw3 _
  have l3 := hbw3.size
  rw [← hw4]
  clear hw4 hbw3
  go_wp2_with (first
    | (at_make; refine wpList_make_full _ rfl _ _ 34 rfl w4.heap.size 5 i0 (.int .u8 0) 1 Tryz.underlying34 HI.out HZ.out.1 HZ.out.2.1 .i64 .i64 32 32 32 rfl rfl rfl rfl ?c1 (by decide) (Nat.le_refl _) ?_)
    | go_in)
  case c1 => rw [HZ.out.2.2]; decide
  intro w5 hown hgrow
  obtain ⟨bS, _⟩ := own_blkB (f := fun _ => 0) hown (by intro i hi; simp [madeCells]; exact ⟨i, by simp [hi], by rw [Nat.mod_one]; rfl⟩) (by decide)
  have hbe : Below w4.heap.size w4 w5 := (Below.refl _ w4).grown hgrow (Nat.le_refl _) (fun j hj => by cases hj)
  have hz4 := bx4.lt
  have l4 := hbw4.size
  have bx5 := bx4.belowAll hbe
  have hbw5 := bStep hbw4 hbe
  clear hown hgrow bx4 hbw4 hbe
  obtain ⟨G, eG⟩ : ∃ G, G = w4.heap.size := ⟨_, rfl⟩
  rw [← eG] at bS hz4 l4
  have hEG := (show Hid _ from eG)
  rw [← eG]
  clear eG
  go_wp2
  go_loopw [24] (fun iv wr => ∃ k : Nat, iv = .int .i64 (k : Int) ∧ k ≤ 32 ∧ Below w.heap.size w wr ∧ Blk wr 24 w3.heap.size (fun i => limb i x) ∧ BlkB wr 5 G 32 (fun j => if j < k then encB x j else 0)) (fun iv _ => 32 - (intOf iv).toNat)
  case atStart => exact ⟨0, rfl, by decide, hbw5, bx5, bS.congr (fun i _ => by simp)⟩
  case round =>
    obtain ⟨k, rfl, hk, hbr, bx, bG⟩ := hrel
    clear bx5 bS hbw5
    by_cases hlt : k < 32
    · have hR := enc_run (encB x k) (limb (k / 8) x) (8 * (k % 8)) (encB_limb x k)
      obtain ⟨iv, eiv⟩ : ∃ iv : Int, iv = (k : Int) := ⟨_, rfl⟩
      rw [← eiv]
      have h0 : 0 ≤ iv := by omega
      have h32 : iv < 32 := by omega
      have hq : iv / 8 = ((k / 8 : Nat) : Int) := by omega
      have hr : iv % 8 = ((k % 8 : Nat) : Int) := by omega
      have ht : ((k % 8 : Nat) : Int) * 8 = ((8 * (k % 8) : Nat) : Int) := by omega
      have tN : iv.toNat = k := by omega
      have q4 : k / 8 < 4 := by omega
      have t64 : 8 * (k % 8) < 64 := by omega
      have cx := bx.cell (k / 8) q4
      have cG := bG.cell k hlt; have fG := bG.frozen
      have HIV := (show Hid _ from eiv)
      obtain ⟨q, eq⟩ : ∃ q, q = k / 8 := ⟨_, rfl⟩
      obtain ⟨r, er⟩ : ∃ r, r = k % 8 := ⟨_, rfl⟩
      rw [← eq] at hR hq q4 cx
      rw [← er] at hR hr ht t64
      obtain ⟨t, et⟩ : ∃ t, t = 8 * r := ⟨_, rfl⟩
      rw [← et] at hR ht t64
      obtain ⟨X, eX⟩ : ∃ X : Int, X = ((limb q x : Nat) : Int) := ⟨_, rfl⟩
      rw [← eX] at hR cx
      obtain ⟨b, eb⟩ : ∃ b, b = encB x k := ⟨_, rfl⟩
      rw [← eb] at hR
      have EB := (show Hid _ from eb)
      clear eiv eq er et eX eb
      go_wp2
      go_roundw
      case measure => rw [HIV.out]; simp [intOf]; omega
      case rel =>
        refine ⟨k + 1, by rw [HIV.out]; go_num, by omega, hbr.setCell (by dsimp only; omega) _, bx.other (by dsimp only; omega) _, (bG.set k hlt b).congr ?_⟩
        intro j _
        by_cases hj : j = k
        · subst hj; simp [EB.out]
        · by_cases hj2 : j < k
          · simp [hj, hj2, show j < k + 1 from by omega]
          · simp [hj, hj2, show ¬ j < k + 1 from by omega]
    · have hki : ¬ (k : Int) < 32 := by omega
      have hk32 : k = 32 := by omega
      have bF := bG.congr (g := encB x) (fun i hi => by rw [if_pos (by omega)])
      clear bG hlt
      go_wp2
      go_ret
      exact ⟨G, rfl, by omega, bF, hbr⟩

end Go.Proofs.YtaeembdabnomaaaGreatDoor

/- The reference's Some(0, 1). -/
namespace Go.Proofs.YtaeembdabnomaaaGreatDoor
open Go.RowKit

theorem pow_one' {m a e : Nat} (m' a' e' f : Nat) (hm : m = m') (ha : a = a') (hx : e = e') (he : e' < 2 ^ f) (h : pm m' a' f e' = 1) : powM m a e = 1 := by
  subst hm ha hx; unfold powM; rw [← pm_eq _ _ f _ he]; exact h
set_option maxRecDepth 100000 in
theorem euler24 : powM (modN 0) (24 % modN 0) ((2 * oddH 0 + 1) * 2 ^ (adicN 0 - 1)) = 1 := pow_one' 16513537 24 8256768 24 (by rfl) (by rfl) (by rfl) (by decide) (by decide +kernel)
theorem int_one : intP 0 1 = 1 := by decide
theorem sq_one : sqY 0 1 = 24 := by decide
set_option maxHeartbeats 4000000 in
set_option maxRecDepth 20000 in
theorem rsome_one (w : World) : Calls Tryz.prog 26 #[.int .i64 0, .int .i64 1] w fun e w' => ∃ r, r < modN 0 ∧ mulP 0 r r = 24 ∧ e = .returned (.agg #[.int .u64 ((limb 0 (1) : Nat) : Int), .int .u64 ((limb 1 (1) : Nat) : Int), .int .u64 ((limb 2 (1) : Nat) : Int), .int .u64 ((limb 3 (1) : Nat) : Int), .int .u64 ((limb 0 (r) : Nat) : Int), .int .u64 ((limb 1 (r) : Nat) : Int), .int .u64 ((limb 2 (r) : Nat) : Int), .int .u64 ((limb 3 (r) : Nat) : Int), .bool false]) ∧ Below w.heap.size w w' := by
  have HS : Hid (∀ w, _) := fun w => ref2Sqrt_any 0 24 (by decide) (by decide) w
  rw [show (((0 : Nat)) : Int) = 0 from rfl] at HS
  obtain ⟨x, ex⟩ : ∃ x, x = 1 := ⟨_, rfl⟩
  obtain ⟨a, ea⟩ : ∃ a, a = 24 := ⟨_, rfl⟩
  have HI : Hid (∀ w, Calls Tryz.prog 52 #[.int .i64 0, .int .i64 1] w fun e w' => e = .returned (.agg #[.int .u64 ((limb 0 (x) : Nat) : Int), .int .u64 ((limb 1 (x) : Nat) : Int), .int .u64 ((limb 2 (x) : Nat) : Int), .int .u64 ((limb 3 (x) : Nat) : Int)]) ∧ Below w.heap.size w w') := fun w => by
    have h := rInt_any 0 1 (by decide) w
    rw [int_one] at h
    rw [ex]
    exact h
  have HC : Hid (∀ w, Calls Tryz.prog 34 #[.int .i64 0, .agg #[.int .u64 ((limb 0 (x) : Nat) : Int), .int .u64 ((limb 1 (x) : Nat) : Int), .int .u64 ((limb 2 (x) : Nat) : Int), .int .u64 ((limb 3 (x) : Nat) : Int)]] w fun e w' => e = .returned (.agg #[.int .u64 ((limb 0 (a) : Nat) : Int), .int .u64 ((limb 1 (a) : Nat) : Int), .int .u64 ((limb 2 (a) : Nat) : Int), .int .u64 ((limb 3 (a) : Nat) : Int)]) ∧ Below w.heap.size w w') := fun w => by
    have h := rcube_any 0 1 (by decide) (by decide) w
    rw [sq_one] at h
    rw [ex, ea]
    exact h
  have QX : ∀ w, (binOp .neq 24 (.agg #[.int .u64 ((limb 0 (x) : Nat) : Int), .int .u64 ((limb 1 (x) : Nat) : Int), .int .u64 ((limb 2 (x) : Nat) : Int), .int .u64 ((limb 3 (x) : Nat) : Int)]) (.agg #[.int .u64 0, .int .u64 0, .int .u64 0, .int .u64 0])).run Tryz.prog w = .ok (.bool true) w := fun w => by rw [ex]; exact neqZ 1 (by decide) w
  have QY := fun (r : Nat) (hr : r < 115792089237316195423570985008687907853269984665640564039457584007913129639936) w => neqZ r hr w
  have HQY := (show Hid _ from QY)
  have EX : Hid (x = 1) := ex
  clear QY
  have HS' : Hid (∀ w, Calls Tryz.prog 48 #[.int .i64 0, .agg #[.int .u64 ((limb 0 (a) : Nat) : Int), .int .u64 ((limb 1 (a) : Nat) : Int), .int .u64 ((limb 2 (a) : Nat) : Int), .int .u64 ((limb 3 (a) : Nat) : Int)]] w fun e w' => (∃ r, r < modN 0 ∧ r ≠ 0 ∧ mulP 0 r r = 24 ∧ e = .returned (.tuple #[.agg #[.int .u64 ((limb 0 (r) : Nat) : Int), .int .u64 ((limb 1 (r) : Nat) : Int), .int .u64 ((limb 2 (r) : Nat) : Int), .int .u64 ((limb 3 (r) : Nat) : Int)], .int .i64 0])) ∧ Below w.heap.size w w') := fun w => by
    rw [ea]
    refine (HS.out w).mono ?_
    rintro e w' ⟨h | h, hb⟩
    · obtain ⟨r, h1, _, h3, rfl⟩ := h
      have h4 : mulP 0 r r = 24 := h3
      refine ⟨⟨r, h1, fun h0 => ?_, h4, rfl⟩, hb⟩
      rw [h0] at h4
      exact absurd h4 (by decide)
    · exact absurd euler24 h.2.1
  clear HS ex ea
  go_enter Tryz.func26, Tryz.ntmps26
  go_wp2_with fail
  go_loopw [1] (fun nv wr => nv = .int .i64 1 ∧ Below w.heap.size w wr ∧ Pt wr w.heap.size 0 0 false) (fun _ _ => 0)
  case atStart => exact ⟨rfl, (Below.refl _ _).alloc (Nat.le_refl _) _, Pt.zeroAt _ _ rfl⟩
  case round =>
    obtain ⟨rfl, hbr, br⟩ := hrel
    go_wp2_with fail
    refine (HI.out _).mono ?_
    rintro e w1 ⟨rfl, hb1⟩
    have br1 := (br.belowAll hb1).alloc (.cells #[.int .u64 ((limb 0 (x) : Nat) : Int), .int .u64 ((limb 1 (x) : Nat) : Int), .int .u64 ((limb 2 (x) : Nat) : Int), .int .u64 ((limb 3 (x) : Nat) : Int)] 24)
    have bx1 : Blk (w1.alloc (.cells #[.int .u64 ((limb 0 (x) : Nat) : Int), .int .u64 ((limb 1 (x) : Nat) : Int), .int .u64 ((limb 2 (x) : Nat) : Int), .int .u64 ((limb 3 (x) : Nat) : Int)] 24)) 24 w1.heap.size (fun i => limb i x) := Blk.newAt _ _ _ (fun i => limb i x) rfl
    have hbw1 := bAlloc (bStep hbr hb1) (.cells #[.int .u64 ((limb 0 (x) : Nat) : Int), .int .u64 ((limb 1 (x) : Nat) : Int), .int .u64 ((limb 2 (x) : Nat) : Int), .int .u64 ((limb 3 (x) : Nat) : Int)] 24)
    clear br hbr hb1 HI
    go_upto_region 2 with fail
    obtain ⟨w2, hw2⟩ : ∃ y : World, y = w1.alloc (.cells #[.int .u64 ((limb 0 (x) : Nat) : Int), .int .u64 ((limb 1 (x) : Nat) : Int), .int .u64 ((limb 2 (x) : Nat) : Int), .int .u64 ((limb 3 (x) : Nat) : Int)] 24) := ⟨_, rfl⟩
    obtain ⟨N5, hN5⟩ : ∃ N, N = w1.heap.size := ⟨_, rfl⟩
    rw [← hw2] at br1 bx1 hbw1 ⊢
    rw [← hN5] at bx1 ⊢
    clear hw2 hN5
    have cx := bx1.cell
    go_wp2_with fail
    refine (HC.out _).mono ?_
    rintro e w3 ⟨rfl, hb3⟩
    clear cx
    have br3 := br1.belowAll hb3; have bx3 := bx1.belowAll hb3
    have hbw3 := bStep hbw1 hb3
    clear br1 bx1 hbw1 hb3
    go_wp2_with fail
    refine (HS'.out _).mono ?_
    rintro e w4 ⟨⟨r, hr1, hr0, hr2, rfl⟩, hb4⟩
    have QR := fun w => HQY.out r (lt_M 0 _ hr1) w
    rw [show (!decide (r = 0)) = true from by simp [hr0]] at QR
    have HR := (show Hid _ from And.intro hr1 hr2)
    have br5 := ((br3.belowAll hb4).alloc (.cells #[.int .u64 ((limb 0 (r) : Nat) : Int), .int .u64 ((limb 1 (r) : Nat) : Int), .int .u64 ((limb 2 (r) : Nat) : Int), .int .u64 ((limb 3 (r) : Nat) : Int)] 24)).alloc (.cells #[.int .u64 0, .int .u64 0, .int .u64 0, .int .u64 0] 24)
    have bx5 := ((bx3.belowAll hb4).alloc (.cells #[.int .u64 ((limb 0 (r) : Nat) : Int), .int .u64 ((limb 1 (r) : Nat) : Int), .int .u64 ((limb 2 (r) : Nat) : Int), .int .u64 ((limb 3 (r) : Nat) : Int)] 24)).alloc (.cells #[.int .u64 0, .int .u64 0, .int .u64 0, .int .u64 0] 24)
    have by5 : Blk ((w4.alloc (.cells #[.int .u64 ((limb 0 (r) : Nat) : Int), .int .u64 ((limb 1 (r) : Nat) : Int), .int .u64 ((limb 2 (r) : Nat) : Int), .int .u64 ((limb 3 (r) : Nat) : Int)] 24)).alloc (.cells #[.int .u64 0, .int .u64 0, .int .u64 0, .int .u64 0] 24)) 24 w4.heap.size (fun i => limb i r) := (Blk.newAt _ _ _ (fun i => limb i r) rfl).alloc _
    have bz5 : Blk ((w4.alloc (.cells #[.int .u64 ((limb 0 (r) : Nat) : Int), .int .u64 ((limb 1 (r) : Nat) : Int), .int .u64 ((limb 2 (r) : Nat) : Int), .int .u64 ((limb 3 (r) : Nat) : Int)] 24)).alloc (.cells #[.int .u64 0, .int .u64 0, .int .u64 0, .int .u64 0] 24)) 24 (w4.heap.size + 1) (fun _ => 0) := Blk.newAt _ _ _ (fun _ => 0) (by simp)
    have hbw5 := bAlloc (bAlloc (bStep hbw3 hb4) (.cells #[.int .u64 ((limb 0 (r) : Nat) : Int), .int .u64 ((limb 1 (r) : Nat) : Int), .int .u64 ((limb 2 (r) : Nat) : Int), .int .u64 ((limb 3 (r) : Nat) : Int)] 24)) (.cells #[.int .u64 0, .int .u64 0, .int .u64 0, .int .u64 0] 24)
    clear br3 bx3 hbw3 hb4 hr1 hr2 hr0 HQY HS' HC
    go_upto_region 4 with fail
    obtain ⟨w5, hw5⟩ : ∃ y : World, y = (w4.alloc (.cells #[.int .u64 ((limb 0 (r) : Nat) : Int), .int .u64 ((limb 1 (r) : Nat) : Int), .int .u64 ((limb 2 (r) : Nat) : Int), .int .u64 ((limb 3 (r) : Nat) : Int)] 24)).alloc (.cells #[.int .u64 0, .int .u64 0, .int .u64 0, .int .u64 0] 24) := ⟨_, rfl⟩
    obtain ⟨N6, hN6⟩ : ∃ N, N = w4.heap.size := ⟨_, rfl⟩
    rw [← hw5] at br5 bx5 by5 bz5 hbw5 ⊢
    rw [← hN6] at by5 bz5 ⊢
    clear hw5 hN6
    have cx := bx5.cell; have cy := by5.cell; have cz := bz5.cell
    obtain ⟨r0, r1, r2, r3, r4, r5, r6, r7, r8, rf⟩ := br5.cells
    go_wp2
    (try simp only [Exit.inBlock, Exit.then])
    refine bodyPost_ret (v := .agg #[.int .u64 ((limb 0 (x) : Nat) : Int), .int .u64 ((limb 1 (x) : Nat) : Int), .int .u64 ((limb 2 (x) : Nat) : Int), .int .u64 ((limb 3 (x) : Nat) : Int), .int .u64 ((limb 0 (r) : Nat) : Int), .int .u64 ((limb 1 (r) : Nat) : Int), .int .u64 ((limb 2 (r) : Nat) : Int), .int .u64 ((limb 3 (r) : Nat) : Int), .bool false]) (by simp [results, Tryz.results26, go_sem, r0, r1, r2, r3, r4, r5, r6, r7, r8]) rfl ⟨r, HR.out.1, HR.out.2, by rw [EX.out], ?_⟩
    exact bSet9 hbw5 (Nat.le_refl _) _ _ _ _ _ _ _ _ _

end Go.Proofs.YtaeembdabnomaaaGreatDoor

/- curve.Decode(0, 32 noughts); alive. -/
namespace Go.Proofs.YtaeembdabnomaaaGreatDoor
open Go.RowKit

theorem conv_zero (w : World) (g c : Nat) (h : BlkB w 5 g 32 (fun _ => 0)) :
    (convert 34 9 (.slice (some ⟨g, 0, none⟩) 32 c)).run Tryz.prog w = .ok (.string ⟨(List.replicate 32 (0 : UInt8)).toArray⟩) w := by
  have hc := run_convert_bytes_back (P := Tryz.prog) w 34 9 5 ⟨g, 0, none⟩ c (List.replicate 32 (0 : UInt8)) Tryz.underlying34 Tryz.underlying5 Tryz.underlying9 (fun j hj => by
    have hj' : j < 32 := by simpa using hj
    have hadd : (⟨g, 0, none⟩ : Addr).add j = ⟨g, j, none⟩ := by unfold Addr.add; split <;> simp_all
    rw [hadd, h.cell j hj', List.getElem_replicate]
    rfl)
  rw [List.length_replicate] at hc
  exact hc
set_option maxHeartbeats 1000000 in
theorem equal_zero (w : World) (g h c d : Nat) (hg : BlkB w 5 g 32 (fun _ => 0)) (hh : BlkB w 5 h 32 (fun _ => 0)) :
    Calls Tryz.prog 43 #[.slice (some ⟨g, 0, none⟩) 32 c, .slice (some ⟨h, 0, none⟩) 32 d] w fun e w' => e = .returned (.bool true) ∧ w' = w := by
  have C1 := conv_zero w g c hg
  have C2 := conv_zero w h d hh
  obtain ⟨s, es⟩ : ∃ s : ByteArray, s = ⟨(List.replicate 32 (0 : UInt8)).toArray⟩ := ⟨_, rfl⟩
  rw [← es] at C1 C2
  clear es hg hh
  go_enter Tryz.func43, Tryz.ntmps43
  go_wp2
  go_ret
  exact ⟨by simp, rfl⟩
set_option maxHeartbeats 3000000 in
set_option maxRecDepth 20000 in
theorem decode_zero (w : World) (g c : Nat) (hB : BlkB w 5 g 32 (fun _ => 0)) :
    Calls Tryz.prog 19 #[.int .i64 0, .slice (some ⟨g, 0, none⟩) 32 c] w fun e w' => e = .returned (.tuple #[.agg #[.int .u64 ((limb 0 (0) : Nat) : Int), .int .u64 ((limb 1 (0) : Nat) : Int), .int .u64 ((limb 2 (0) : Nat) : Int), .int .u64 ((limb 3 (0) : Nat) : Int), .int .u64 ((limb 0 (0) : Nat) : Int), .int .u64 ((limb 1 (0) : Nat) : Int), .int .u64 ((limb 2 (0) : Nat) : Int), .int .u64 ((limb 3 (0) : Nat) : Int), .bool true], .int .i64 0]) ∧ Below w.heap.size w w' := by
  obtain ⟨i0, hi, hz0, hz1, hz2⟩ := byteInfo
  have HI := (show Hid _ from hi); have HZ := (show Hid _ from And.intro hz0 (And.intro hz1 hz2)); clear hi hz0 hz1 hz2
  have HIC : Hid (∀ w, Calls Tryz.prog 27 #[.int .i64 0] w fun e w' => e = .returned (.bool true) ∧ w' = w) := fun w => isCurve_in 0 (by decide) w
  have HIN : Hid (∀ w, _) := infinity_any
  go_enter Tryz.func19, Tryz.ntmps19
  go_upto_region 1 with fail
  obtain ⟨w0, hw0⟩ : ∃ w0 : World, w0 = w.alloc (.cells #[.int .u64 0, .int .u64 0, .int .u64 0, .int .u64 0, .int .u64 0, .int .u64 0, .int .u64 0, .int .u64 0, .bool false] 26) := ⟨_, rfl⟩
  have br0 : Pt w0 w.heap.size 0 0 false := by rw [hw0]; exact Pt.zeroAt _ _ rfl
  have bB0 : BlkB w0 5 g 32 (fun _ => 0) := by rw [hw0]; exact hB.alloc _
  have hbw0 : Below w.heap.size w w0 := by rw [hw0]; exact (Below.refl _ _).alloc (Nat.le_refl _) _
  rw [← hw0]
  clear hw0
  go_wp2_with fail
  refine (HIC.out _).mono ?_
  rintro e w1 ⟨rfl, hw1⟩
  rw [hw1]
  clear hw1
  go_wp2_with (first
    | (at_make; refine wpList_make_full _ rfl _ _ 34 rfl w0.heap.size 5 i0 (.int .u8 0) 1 Tryz.underlying34 HI.out HZ.out.1 HZ.out.2.1 .i64 .i64 32 32 32 rfl rfl rfl rfl ?c1 (by decide) (Nat.le_refl _) ?_)
    | go_in)
  case c1 => rw [HZ.out.2.2]; decide
  intro w5 hown hgrow
  obtain ⟨bS, _⟩ := own_blkB (f := fun _ => 0) hown (by intro i hi; simp [madeCells]; exact ⟨i, by simp [hi], by rw [Nat.mod_one]; rfl⟩) (by decide)
  have hbe : Below w0.heap.size w0 w5 := (Below.refl _ w0).grown hgrow (Nat.le_refl _) (fun j hj => by cases hj)
  have br5 := br0.belowAll hbe
  have bB5 := bB0.belowAll hbe
  have hbw5 := bStep hbw0 hbe
  have HEQ := fun (_ : Unit) => equal_zero w5 g w0.heap.size c 32 bB5 bS
  have HE := (show Hid _ from HEQ)
  clear hown hgrow hbe HEQ br0 bB0 hbw0 bS bB5
  go_wp2_with fail
  refine (HE.out ()).mono ?_
  rintro e w6 ⟨rfl, hw6⟩
  rw [hw6]
  clear hw6 HE
  go_wp2_with fail
  refine (HIN.out _).mono ?_
  rintro e w7 ⟨rfl, hb7⟩
  obtain ⟨r0, r1, r2, r3, r4, r5, r6, r7, r8, rf⟩ := (br5.belowAll hb7).cells
  go_wp2
  refine bodyPost_ret (v := .tuple #[.agg #[.int .u64 ((limb 0 (0) : Nat) : Int), .int .u64 ((limb 1 (0) : Nat) : Int), .int .u64 ((limb 2 (0) : Nat) : Int), .int .u64 ((limb 3 (0) : Nat) : Int), .int .u64 ((limb 0 (0) : Nat) : Int), .int .u64 ((limb 1 (0) : Nat) : Int), .int .u64 ((limb 2 (0) : Nat) : Int), .int .u64 ((limb 3 (0) : Nat) : Int), .bool true], .int .i64 0]) (by simp [results, Tryz.results19, go_sem, r0, r1, r2, r3, r4, r5, r6, r7, r8]) rfl ⟨rfl, ?_⟩
  exact bSet9 (bStep hbw5 hb7) (Nat.le_refl _) _ _ _ _ _ _ _ _ _

end Go.Proofs.YtaeembdabnomaaaGreatDoor

/- alive, of curve's statements. -/
namespace Go.Proofs.YtaeembdabnomaaaGreatDoor
open Go.RowKit

set_option maxHeartbeats 4000000 in
set_option maxRecDepth 20000 in
theorem alive4_any (w : World) (hg : GlobC w) : Calls Tryz.prog 9 #[] w fun e w' => e = .returned (.bool true) ∧ Below w.heap.size w w' := by
  obtain ⟨i0, hi, hz0, hz1, hz2⟩ := byteInfo
  have HI := (show Hid _ from hi); have HZ := (show Hid _ from And.intro hz0 (And.intro hz1 hz2)); clear hi hz0 hz1 hz2
  have HG0 : Hid (GlobC w) := hg
  obtain ⟨o, eo⟩ : ∃ o, o = 0 := ⟨_, rfl⟩
  obtain ⟨x, ex⟩ : ∃ x, x = 1 := ⟨_, rfl⟩
  have HIN : Hid (∀ w, Calls Tryz.prog 24 #[] w fun e w' => e = .returned (.agg #[.int .u64 ((limb 0 (o) : Nat) : Int), .int .u64 ((limb 1 (o) : Nat) : Int), .int .u64 ((limb 2 (o) : Nat) : Int), .int .u64 ((limb 3 (o) : Nat) : Int), .int .u64 ((limb 0 (o) : Nat) : Int), .int .u64 ((limb 1 (o) : Nat) : Int), .int .u64 ((limb 2 (o) : Nat) : Int), .int .u64 ((limb 3 (o) : Nat) : Int), .bool true]) ∧ Below w.heap.size w w') := fun w => by rw [eo]; exact infinity_any w
  have HDE : Hid (∀ (w : World) (g c : Nat), BlkB w 5 g 32 (fun _ => 0) → Calls Tryz.prog 19 #[.int .i64 0, .slice (some ⟨g, 0, none⟩) 32 c] w fun e w' => e = .returned (.tuple #[.agg #[.int .u64 ((limb 0 (o) : Nat) : Int), .int .u64 ((limb 1 (o) : Nat) : Int), .int .u64 ((limb 2 (o) : Nat) : Int), .int .u64 ((limb 3 (o) : Nat) : Int), .int .u64 ((limb 0 (o) : Nat) : Int), .int .u64 ((limb 1 (o) : Nat) : Int), .int .u64 ((limb 2 (o) : Nat) : Int), .int .u64 ((limb 3 (o) : Nat) : Int), .bool true], .int .i64 0]) ∧ Below w.heap.size w w') := fun w g c h => by rw [eo]; exact decode_zero w g c h
  have HSO : Hid (∀ w, Calls Tryz.prog 26 #[.int .i64 0, .int .i64 1] w fun e w' => ∃ r, r < modN 0 ∧ mulP 0 r r = 24 ∧ e = .returned (.agg #[.int .u64 ((limb 0 (x) : Nat) : Int), .int .u64 ((limb 1 (x) : Nat) : Int), .int .u64 ((limb 2 (x) : Nat) : Int), .int .u64 ((limb 3 (x) : Nat) : Int), .int .u64 ((limb 0 (r) : Nat) : Int), .int .u64 ((limb 1 (r) : Nat) : Int), .int .u64 ((limb 2 (r) : Nat) : Int), .int .u64 ((limb 3 (r) : Nat) : Int), .bool false]) ∧ Below w.heap.size w w') := fun w => by rw [ex]; exact rsome_one w
  have HON : Hid (∀ r, r < modN 0 → mulP 0 r r = 24 → ∀ w, GlobC w → Calls Tryz.prog 10 #[.int .i64 0, .agg #[.int .u64 ((limb 0 (x) : Nat) : Int), .int .u64 ((limb 1 (x) : Nat) : Int), .int .u64 ((limb 2 (x) : Nat) : Int), .int .u64 ((limb 3 (x) : Nat) : Int), .int .u64 ((limb 0 (r) : Nat) : Int), .int .u64 ((limb 1 (r) : Nat) : Int), .int .u64 ((limb 2 (r) : Nat) : Int), .int .u64 ((limb 3 (r) : Nat) : Int), .bool false]] w fun e w' => e = .returned (.bool true) ∧ Below w.heap.size w w') := fun r h1 h2 w hg => by
    have h := on_in 0 1 r false (by decide) (by decide) (lt_M 0 _ h1) w hg
    have hon : onC 0 1 r false := Or.inr ⟨rfl, by decide, h1, h2.trans sq_one.symm⟩
    rw [decide_eq_true hon] at h
    rw [ex]
    exact h
  have HMU : Hid (∀ r, r < modN 0 → mulP 0 r r = 24 → ∀ w, GlobC w → Calls Tryz.prog 16 #[.int .i64 0, .agg #[.int .u64 1, .int .u64 0, .int .u64 0, .int .u64 0], .agg #[.int .u64 ((limb 0 (x) : Nat) : Int), .int .u64 ((limb 1 (x) : Nat) : Int), .int .u64 ((limb 2 (x) : Nat) : Int), .int .u64 ((limb 3 (x) : Nat) : Int), .int .u64 ((limb 0 (r) : Nat) : Int), .int .u64 ((limb 1 (r) : Nat) : Int), .int .u64 ((limb 2 (r) : Nat) : Int), .int .u64 ((limb 3 (r) : Nat) : Int), .bool false]] w fun e w' => e = .returned (.agg #[.int .u64 ((limb 0 (x) : Nat) : Int), .int .u64 ((limb 1 (x) : Nat) : Int), .int .u64 ((limb 2 (x) : Nat) : Int), .int .u64 ((limb 3 (x) : Nat) : Int), .int .u64 ((limb 0 (r) : Nat) : Int), .int .u64 ((limb 1 (r) : Nat) : Int), .int .u64 ((limb 2 (r) : Nat) : Int), .int .u64 ((limb 3 (r) : Nat) : Int), .bool false]) ∧ Below w.heap.size w w') := fun r h1 h2 w hg => by
    rw [ex]
    exact mul_one0 1 r (by decide) h1 (Or.inr ⟨rfl, by decide, h1, h2.trans sq_one.symm⟩) w hg
  have QO : ∀ w, (binOp .eql 26 (.agg #[.int .u64 ((limb 0 (o) : Nat) : Int), .int .u64 ((limb 1 (o) : Nat) : Int), .int .u64 ((limb 2 (o) : Nat) : Int), .int .u64 ((limb 3 (o) : Nat) : Int), .int .u64 ((limb 0 (o) : Nat) : Int), .int .u64 ((limb 1 (o) : Nat) : Int), .int .u64 ((limb 2 (o) : Nat) : Int), .int .u64 ((limb 3 (o) : Nat) : Int), .bool true]) (.agg #[.int .u64 ((limb 0 (o) : Nat) : Int), .int .u64 ((limb 1 (o) : Nat) : Int), .int .u64 ((limb 2 (o) : Nat) : Int), .int .u64 ((limb 3 (o) : Nat) : Int), .int .u64 ((limb 0 (o) : Nat) : Int), .int .u64 ((limb 1 (o) : Nat) : Int), .int .u64 ((limb 2 (o) : Nat) : Int), .int .u64 ((limb 3 (o) : Nat) : Int), .bool true])).run Tryz.prog w = .ok (.bool true) w := fun w => by
    have h := eqlP o o o o true true (by rw [eo]; decide) (by rw [eo]; decide) (by rw [eo]; decide) (by rw [eo]; decide) w
    rw [decide_eq_true (⟨rfl, rfl, rfl⟩ : o = o ∧ o = o ∧ true = true)] at h
    exact h
  have QG : Hid (∀ r, r < modN 0 → ∀ w, (binOp .eql 26 (.agg #[.int .u64 ((limb 0 (x) : Nat) : Int), .int .u64 ((limb 1 (x) : Nat) : Int), .int .u64 ((limb 2 (x) : Nat) : Int), .int .u64 ((limb 3 (x) : Nat) : Int), .int .u64 ((limb 0 (r) : Nat) : Int), .int .u64 ((limb 1 (r) : Nat) : Int), .int .u64 ((limb 2 (r) : Nat) : Int), .int .u64 ((limb 3 (r) : Nat) : Int), .bool false]) (.agg #[.int .u64 ((limb 0 (x) : Nat) : Int), .int .u64 ((limb 1 (x) : Nat) : Int), .int .u64 ((limb 2 (x) : Nat) : Int), .int .u64 ((limb 3 (x) : Nat) : Int), .int .u64 ((limb 0 (r) : Nat) : Int), .int .u64 ((limb 1 (r) : Nat) : Int), .int .u64 ((limb 2 (r) : Nat) : Int), .int .u64 ((limb 3 (r) : Nat) : Int), .bool false])).run Tryz.prog w = .ok (.bool true) w) := fun r h1 w => by
    have h := eqlP x r x r false false (by rw [ex]; decide) (lt_M 0 _ h1) (by rw [ex]; decide) (lt_M 0 _ h1) w
    rw [decide_eq_true (⟨rfl, rfl, rfl⟩ : x = x ∧ r = r ∧ false = false)] at h
    exact h
  clear hg eo ex
  go_enter Tryz.func9, Tryz.ntmps9
  go_wp2_with (first
    | (at_make; refine wpList_make_full _ rfl _ _ 34 rfl w.heap.size 5 i0 (.int .u8 0) 1 Tryz.underlying34 HI.out HZ.out.1 HZ.out.2.1 .i64 .i64 32 32 32 rfl rfl rfl rfl ?c1 (by decide) (Nat.le_refl _) ?_)
    | go_in)
  case c1 => rw [HZ.out.2.2]; decide
  intro w1 hown hgrow
  obtain ⟨bS, _⟩ := own_blkB (f := fun _ => 0) hown (by intro i hi; simp [madeCells]; exact ⟨i, by simp [hi], by rw [Nat.mod_one]; rfl⟩) (by decide)
  have hbw1 : Below w.heap.size w w1 := (Below.refl _ w).grown hgrow (Nat.le_refl _) (fun j hj => by cases hj)
  have HD := (show Hid _ from fun (_ : Unit) => HDE.out w1 w.heap.size 32 bS)
  clear hown hgrow bS HDE
  go_wp2_with fail
  refine (HD.out ()).mono ?_
  rintro e w2 ⟨rfl, hb2⟩
  have hal : Below w2.heap.size w2 (w2.alloc (.cells #[.int .u64 ((limb 0 o : Nat) : Int), .int .u64 ((limb 1 o : Nat) : Int), .int .u64 ((limb 2 o : Nat) : Int), .int .u64 ((limb 3 o : Nat) : Int), .int .u64 ((limb 0 o : Nat) : Int), .int .u64 ((limb 1 o : Nat) : Int), .int .u64 ((limb 2 o : Nat) : Int), .int .u64 ((limb 3 o : Nat) : Int), .bool true] 26)) := (Below.refl _ _).alloc (Nat.le_refl _) _
  have bp3 : Pt (w2.alloc (.cells #[.int .u64 ((limb 0 o : Nat) : Int), .int .u64 ((limb 1 o : Nat) : Int), .int .u64 ((limb 2 o : Nat) : Int), .int .u64 ((limb 3 o : Nat) : Int), .int .u64 ((limb 0 o : Nat) : Int), .int .u64 ((limb 1 o : Nat) : Int), .int .u64 ((limb 2 o : Nat) : Int), .int .u64 ((limb 3 o : Nat) : Int), .bool true] 26)) w2.heap.size o o true := Pt.newAt _ _ _ _ _ rfl
  have hbw3 := bStep (bStep hbw1 hb2) hal
  clear HD hb2 hbw1 hal
  go_upto_region 2 with fail
  obtain ⟨w3, hw3⟩ : ∃ WW : World, WW = w2.alloc (.cells #[.int .u64 ((limb 0 o : Nat) : Int), .int .u64 ((limb 1 o : Nat) : Int), .int .u64 ((limb 2 o : Nat) : Int), .int .u64 ((limb 3 o : Nat) : Int), .int .u64 ((limb 0 o : Nat) : Int), .int .u64 ((limb 1 o : Nat) : Int), .int .u64 ((limb 2 o : Nat) : Int), .int .u64 ((limb 3 o : Nat) : Int), .bool true] 26) := ⟨_, rfl⟩
  obtain ⟨N1, hN1⟩ : ∃ N, N = w2.heap.size := ⟨_, rfl⟩
  rw [← hw3] at bp3 hbw3 ⊢
  rw [← hN1] at bp3 ⊢
  clear hw3 hN1
  go_wp2_with fail
  refine (HSO.out _).mono ?_
  rintro e w4 ⟨r, hr1, hr2, rfl, hb4⟩
  have bp5 := (bp3.belowAll hb4).alloc (.cells #[.int .u64 ((limb 0 x : Nat) : Int), .int .u64 ((limb 1 x : Nat) : Int), .int .u64 ((limb 2 x : Nat) : Int), .int .u64 ((limb 3 x : Nat) : Int), .int .u64 ((limb 0 r : Nat) : Int), .int .u64 ((limb 1 r : Nat) : Int), .int .u64 ((limb 2 r : Nat) : Int), .int .u64 ((limb 3 r : Nat) : Int), .bool false] 26)
  have bg5 : Pt (w4.alloc (.cells #[.int .u64 ((limb 0 x : Nat) : Int), .int .u64 ((limb 1 x : Nat) : Int), .int .u64 ((limb 2 x : Nat) : Int), .int .u64 ((limb 3 x : Nat) : Int), .int .u64 ((limb 0 r : Nat) : Int), .int .u64 ((limb 1 r : Nat) : Int), .int .u64 ((limb 2 r : Nat) : Int), .int .u64 ((limb 3 r : Nat) : Int), .bool false] 26)) w4.heap.size x r false := Pt.newAt _ _ _ _ _ rfl
  have hbw5 := bAlloc (bStep hbw3 hb4) (.cells #[.int .u64 ((limb 0 x : Nat) : Int), .int .u64 ((limb 1 x : Nat) : Int), .int .u64 ((limb 2 x : Nat) : Int), .int .u64 ((limb 3 x : Nat) : Int), .int .u64 ((limb 0 r : Nat) : Int), .int .u64 ((limb 1 r : Nat) : Int), .int .u64 ((limb 2 r : Nat) : Int), .int .u64 ((limb 3 r : Nat) : Int), .bool false] 26)
  have HO := (show Hid _ from HON.out r hr1 hr2)
  have HM := (show Hid _ from HMU.out r hr1 hr2)
  have QR := QG.out r hr1
  clear hb4 hbw3 bp3 HSO HON HMU hr1 hr2 QG
  go_upto_region 3 with fail
  obtain ⟨w5, hw5⟩ : ∃ WW : World, WW = w4.alloc (.cells #[.int .u64 ((limb 0 x : Nat) : Int), .int .u64 ((limb 1 x : Nat) : Int), .int .u64 ((limb 2 x : Nat) : Int), .int .u64 ((limb 3 x : Nat) : Int), .int .u64 ((limb 0 r : Nat) : Int), .int .u64 ((limb 1 r : Nat) : Int), .int .u64 ((limb 2 r : Nat) : Int), .int .u64 ((limb 3 r : Nat) : Int), .bool false] 26) := ⟨_, rfl⟩
  obtain ⟨N3, hN3⟩ : ∃ N, N = w4.heap.size := ⟨_, rfl⟩
  rw [← hw5] at bp5 bg5 hbw5 ⊢
  rw [← hN3] at bg5 ⊢
  clear hw5 hN3
  have HG : Hid (GlobC w5) := HG0.out.below hbw5
  have HS0 : Hid (Below w5.heap.size w5 w5.drew) := (Below.refl _ _).drew
  refine wp_region_Z (fun w' => Below w5.heap.size w5 w') 99 (by kernel_rfl) ?_
  refine wpZ_take (i := 0) (v := .int .i64 0) 10 rfl rfl (by kernel_rfl) (by kernel_rfl) (by kernel_rfl) (Or.inr (by decide)) (fun _ _ _ h => h) (Or.inl ⟨by rfl, fun w hSw => by go_simp⟩) HS0.out ?_
  simp only [Act.put, List.setIfInBounds_toArray]
  dsimp only [List.set_cons_zero, List.set_cons_succ]
  refine wpZ_take (i := 1) (v := .bool true) 11 rfl rfl (by kernel_rfl) (by kernel_rfl) (by kernel_rfl) (Or.inr (by decide)) (fun _ _ _ h => h) (Or.inl ⟨by rfl, fun w hSw => by go_simp⟩) HS0.out ?_
  simp only [Act.put, List.setIfInBounds_toArray]
  dsimp only [List.set_cons_zero, List.set_cons_succ]
  refine wpZ_take (i := 2) (v := .bool true) 12 rfl rfl (by kernel_rfl) (by kernel_rfl) (by kernel_rfl) (Or.inr (by decide)) (fun _ _ _ h => h) (Or.inl ⟨by rfl, fun w hSw => by go_simp⟩) HS0.out ?_
  simp only [Act.put, List.setIfInBounds_toArray]
  dsimp only [List.set_cons_zero, List.set_cons_succ]
  refine wpZ_take (i := 3) (v := .agg #[.int .u64 ((limb 0 (o) : Nat) : Int), .int .u64 ((limb 1 (o) : Nat) : Int), .int .u64 ((limb 2 (o) : Nat) : Int), .int .u64 ((limb 3 (o) : Nat) : Int), .int .u64 ((limb 0 (o) : Nat) : Int), .int .u64 ((limb 1 (o) : Nat) : Int), .int .u64 ((limb 2 (o) : Nat) : Int), .int .u64 ((limb 3 (o) : Nat) : Int), .bool true]) 13 rfl rfl (by kernel_rfl) (by kernel_rfl) (by kernel_rfl) (Or.inr (by decide)) (fun _ _ _ h => h) (Or.inl ⟨by rfl, fun w hSw => by (obtain ⟨q0, q1, q2, q3, q4, q5, q6, q7, q8, qf⟩ := (bp5.belowAll hSw).cells; clear hSw; go_simp)⟩) HS0.out ?_
  simp only [Act.put, List.setIfInBounds_toArray]
  dsimp only [List.set_cons_zero, List.set_cons_succ]
  refine wpZ_one (i := 4) (by kernel_rfl) rfl (fun K hK => ?_)
  go_simp
  refine (HIN.out w5.drew).mono ?_
  rintro e wK1 ⟨rfl, hbK1⟩
  have hSK1 : Below w5.heap.size w5 wK1 := bStep (HS0.out) hbK1
  go_wp2_with fail
  refine hK.out _ _ (fun _ => hSK1) ?_
  clear hK K
  refine wpZ_take (i := 5) (v := .bool true) 15 rfl rfl (by kernel_rfl) (by kernel_rfl) (by kernel_rfl) (Or.inr (by decide)) (fun _ _ _ h => h) (Or.inl ⟨by rfl, fun w hSw => by go_simp⟩) hSK1 ?_
  simp only [Act.put, List.setIfInBounds_toArray]
  dsimp only [List.set_cons_zero, List.set_cons_succ]
  refine wpZ_take (i := 6) (v := .bool true) 16 rfl rfl (by kernel_rfl) (by kernel_rfl) (by kernel_rfl) (Or.inr (by decide)) (fun _ _ _ h => h) (Or.inl ⟨by rfl, fun w hSw => by go_simp⟩) hSK1 ?_
  simp only [Act.put, List.setIfInBounds_toArray]
  dsimp only [List.set_cons_zero, List.set_cons_succ]
  refine wpZ_take (i := 7) (v := .bool true) 17 rfl rfl (by kernel_rfl) (by kernel_rfl) (by kernel_rfl) (Or.inr (by decide)) (fun _ _ _ h => h) (Or.inl ⟨by rfl, fun w hSw => by go_simp⟩) hSK1 ?_
  simp only [Act.put, List.setIfInBounds_toArray]
  dsimp only [List.set_cons_zero, List.set_cons_succ]
  refine wpZ_take (i := 8) (v := .pointer (some ⟨N1, 8, none⟩)) 18 rfl rfl (by kernel_rfl) (by kernel_rfl) (by kernel_rfl) (Or.inr (by decide)) (fun _ _ _ h => h) (Or.inl ⟨by rfl, fun w hSw => by go_simp⟩) hSK1 ?_
  simp only [Act.put, List.setIfInBounds_toArray]
  dsimp only [List.set_cons_zero, List.set_cons_succ]
  refine wpZ_take (i := 9) (v := .bool true) 19 rfl rfl (by kernel_rfl) (by kernel_rfl) (by kernel_rfl) (Or.inr (by decide)) (fun _ _ _ h => h) (Or.inl ⟨by rfl, fun w hSw => by (obtain ⟨q0, q1, q2, q3, q4, q5, q6, q7, q8, qf⟩ := (bp5.belowAll hSw).cells; clear hSw; go_simp)⟩) hSK1 ?_
  simp only [Act.put, List.setIfInBounds_toArray]
  dsimp only [List.set_cons_zero, List.set_cons_succ]
  refine wpZ_take (i := 10) (v := .bool true) 20 rfl rfl (by kernel_rfl) (by kernel_rfl) (by kernel_rfl) (Or.inr (by decide)) (fun _ _ _ h => h) (Or.inl ⟨by rfl, fun w hSw => by go_simp⟩) hSK1 ?_
  simp only [Act.put, List.setIfInBounds_toArray]
  dsimp only [List.set_cons_zero, List.set_cons_succ]
  refine wpZ_take (i := 11) (v := .bool true) 21 rfl rfl (by kernel_rfl) (by kernel_rfl) (by kernel_rfl) (Or.inr (by decide)) (fun _ _ _ h => h) (Or.inl ⟨by rfl, fun w hSw => by go_simp⟩) hSK1 ?_
  simp only [Act.put, List.setIfInBounds_toArray]
  dsimp only [List.set_cons_zero, List.set_cons_succ]
  refine wpZ_take (i := 12) (v := .agg #[.int .u64 ((limb 0 (x) : Nat) : Int), .int .u64 ((limb 1 (x) : Nat) : Int), .int .u64 ((limb 2 (x) : Nat) : Int), .int .u64 ((limb 3 (x) : Nat) : Int), .int .u64 ((limb 0 (r) : Nat) : Int), .int .u64 ((limb 1 (r) : Nat) : Int), .int .u64 ((limb 2 (r) : Nat) : Int), .int .u64 ((limb 3 (r) : Nat) : Int), .bool false]) 22 rfl rfl (by kernel_rfl) (by kernel_rfl) (by kernel_rfl) (Or.inr (by decide)) (fun _ _ _ h => h) (Or.inl ⟨by rfl, fun w hSw => by (obtain ⟨q0, q1, q2, q3, q4, q5, q6, q7, q8, qf⟩ := (bg5.belowAll hSw).cells; clear hSw; go_simp)⟩) hSK1 ?_
  simp only [Act.put, List.setIfInBounds_toArray]
  dsimp only [List.set_cons_zero, List.set_cons_succ]
  refine wpZ_one (i := 13) (by kernel_rfl) rfl (fun K hK => ?_)
  go_simp
  refine (HO.out wK1 (HG.out.below (hSK1))).mono ?_
  rintro e wK2 ⟨rfl, hbK2⟩
  have hSK2 : Below w5.heap.size w5 wK2 := bStep (hSK1) hbK2
  go_wp2_with fail
  refine hK.out _ _ (fun _ => hSK2) ?_
  clear hK K
  refine wpZ_take (i := 14) (v := .bool true) 24 rfl rfl (by kernel_rfl) (by kernel_rfl) (by kernel_rfl) (Or.inr (by decide)) (fun _ _ _ h => h) (Or.inl ⟨by rfl, fun w hSw => by go_simp⟩) hSK2 ?_
  simp only [Act.put, List.setIfInBounds_toArray]
  dsimp only [List.set_cons_zero, List.set_cons_succ]
  refine wpZ_take (i := 15) (v := .bool true) 25 rfl rfl (by kernel_rfl) (by kernel_rfl) (by kernel_rfl) (Or.inr (by decide)) (fun _ _ _ h => h) (Or.inl ⟨by rfl, fun w hSw => by go_simp⟩) hSK2 ?_
  simp only [Act.put, List.setIfInBounds_toArray]
  dsimp only [List.set_cons_zero, List.set_cons_succ]
  refine wpZ_take (i := 16) (v := .agg #[.int .u64 1, .int .u64 0, .int .u64 0, .int .u64 0]) 26 rfl rfl (by kernel_rfl) (by kernel_rfl) (by kernel_rfl) (Or.inr (by decide)) (fun _ _ _ h => h) (Or.inl ⟨by rfl, fun w hSw => by go_simp⟩) hSK2 ?_
  simp only [Act.put, List.setIfInBounds_toArray]
  dsimp only [List.set_cons_zero, List.set_cons_succ]
  refine wpZ_take (i := 17) (v := .agg #[.int .u64 ((limb 0 (x) : Nat) : Int), .int .u64 ((limb 1 (x) : Nat) : Int), .int .u64 ((limb 2 (x) : Nat) : Int), .int .u64 ((limb 3 (x) : Nat) : Int), .int .u64 ((limb 0 (r) : Nat) : Int), .int .u64 ((limb 1 (r) : Nat) : Int), .int .u64 ((limb 2 (r) : Nat) : Int), .int .u64 ((limb 3 (r) : Nat) : Int), .bool false]) 27 rfl rfl (by kernel_rfl) (by kernel_rfl) (by kernel_rfl) (Or.inr (by decide)) (fun _ _ _ h => h) (Or.inl ⟨by rfl, fun w hSw => by (obtain ⟨q0, q1, q2, q3, q4, q5, q6, q7, q8, qf⟩ := (bg5.belowAll hSw).cells; clear hSw; go_simp)⟩) hSK2 ?_
  simp only [Act.put, List.setIfInBounds_toArray]
  dsimp only [List.set_cons_zero, List.set_cons_succ]
  refine wpZ_take (i := 19) (v := .agg #[.int .u64 ((limb 0 (x) : Nat) : Int), .int .u64 ((limb 1 (x) : Nat) : Int), .int .u64 ((limb 2 (x) : Nat) : Int), .int .u64 ((limb 3 (x) : Nat) : Int), .int .u64 ((limb 0 (r) : Nat) : Int), .int .u64 ((limb 1 (r) : Nat) : Int), .int .u64 ((limb 2 (r) : Nat) : Int), .int .u64 ((limb 3 (r) : Nat) : Int), .bool false]) 29 rfl rfl (by kernel_rfl) (by kernel_rfl) (by kernel_rfl) (Or.inr (by decide)) (fun _ _ _ h => h) (Or.inl ⟨by rfl, fun w hSw => by (obtain ⟨q0, q1, q2, q3, q4, q5, q6, q7, q8, qf⟩ := (bg5.belowAll hSw).cells; clear hSw; go_simp)⟩) hSK2 ?_
  simp only [Act.put, List.setIfInBounds_toArray]
  dsimp only [List.set_cons_zero, List.set_cons_succ]
  refine wpZ_one (i := 18) (by kernel_rfl) rfl (fun K hK => ?_)
  go_simp
  refine (HM.out wK2 (HG.out.below (hSK2))).mono ?_
  rintro e wK3 ⟨rfl, hbK3⟩
  have hSK3 : Below w5.heap.size w5 wK3 := bStep (hSK2) hbK3
  go_wp2_with fail
  refine hK.out _ _ (fun _ => hSK3) ?_
  clear hK K
  refine wpZ_take (i := 20) (v := .bool true) 30 rfl rfl (by kernel_rfl) (by kernel_rfl) (by kernel_rfl) (Or.inr (by decide)) (fun _ _ _ h => h) (Or.inl ⟨by rfl, fun w hSw => by go_simp⟩) hSK3 ?_
  simp only [Act.put, List.setIfInBounds_toArray]
  dsimp only [List.set_cons_zero, List.set_cons_succ]
  refine wpZ_take (i := 21) (v := .bool true) 31 rfl rfl (by kernel_rfl) (by kernel_rfl) (by kernel_rfl) (Or.inr (by decide)) (fun _ _ _ h => h) (Or.inl ⟨by rfl, fun w hSw => by go_simp⟩) hSK3 ?_
  simp only [Act.put, List.setIfInBounds_toArray]
  dsimp only [List.set_cons_zero, List.set_cons_succ]
  refine wpZ_take (i := 22) (v := .bool true) 0 rfl rfl (by kernel_rfl) (by kernel_rfl) (by kernel_rfl) (Or.inr (by decide)) (fun _ _ _ h => h) (Or.inl ⟨by rfl, fun w hSw => by go_simp⟩) hSK3 ?_
  simp only [Act.put, List.setIfInBounds_toArray]
  dsimp only [List.set_cons_zero, List.set_cons_succ]
  refine wpZ_done (by kernel_rfl) ?_ _
  go_wp2
  go_ret
  exact ⟨rfl, bStep hbw5 (hSK3)⟩

end Go.Proofs.YtaeembdabnomaaaGreatDoor

/- Program and reference answer the same sums of points. -/
namespace Go.Proofs.YtaeembdabnomaaaGreatDoor

theorem sqY_cube (c x : Nat) : sqY c x = (x * x * x + bN c) % modN c := by
  unfold sqY addP mulP
  rw [Nat.mul_mod_mod, Nat.mod_add_mod, Nat.mul_assoc]
/-- No point has Y 0. -/
theorem on_y {c x y : Nat} (h : onC c x y false) : y ≠ 0 := by
  unfold onC at h
  rcases h with ⟨_, _, h⟩ | ⟨_, _, _, h⟩
  · cases h
  · intro h0
    rw [h0, sqY_cube] at h
    have hz : mulP c 0 0 = 0 := by unfold mulP; rw [Nat.mul_zero, Nat.zero_mod]
    rw [hz] at h
    exact cube_none c x h.symm
theorem on_fin' {c x y : Nat} (h : onC c x y false) : x < modN c ∧ y < modN c ∧ mulP c y y = sqY c x := by
  unfold onC at h
  rcases h with ⟨_, _, h⟩ | ⟨_, h⟩
  · cases h
  · exact h
/-- Two of one square are equal or opposite. -/
theorem two_roots {p y v : Nat} (hp : IsPrime p) (hy : y < p) (hv : v < p) (h : y * y % p = v * v % p) : y = v ∨ y + v = 0 ∨ y + v = p := by
  have key : ∀ a b : Nat, a < p → b ≤ a → a * a % p = b * b % p → a = b ∨ a + b = 0 ∨ a + b = p := by
    intro a b ha hb h
    have e : (a - b) * (a + b) = a * a - b * b := by
      rw [Nat.mul_comm, Nat.mul_self_sub_mul_self_eq]
    have hd : p ∣ (a - b) * (a + b) := by
      rw [e]
      exact Nat.dvd_of_mod_eq_zero (Nat.sub_mod_eq_zero_of_mod_eq h)
    rcases hp.dvd_mul hd with h1 | h1
    · left
      have := Nat.eq_zero_of_dvd_of_lt h1 (by omega)
      omega
    · right
      obtain ⟨k, hk⟩ := h1
      have : k < 2 := by
        apply Nat.lt_of_not_le
        intro h2
        have := Nat.mul_le_mul_left p h2
        omega
      have : k = 0 ∨ k = 1 := by omega
      rcases this with rfl | rfl
      · left; omega
      · right; omega
  rcases Nat.le_total v y with hle | hle
  · exact key y v hy hle h
  · rcases key v y hv hle h.symm with h1 | h1 | h1
    · exact Or.inl h1.symm
    · exact Or.inr (Or.inl (by omega))
    · exact Or.inr (Or.inr (by omega))
theorem neg_eq (c y : Nat) (hy : y < modN c) (h0 : y ≠ 0) : subP c 0 y = modN c - y := by
  unfold subP
  rw [Nat.mod_eq_of_lt hy, Nat.zero_add, Nat.mod_eq_of_lt (by omega)]
/-- Points with one X: opposite, if they aren't one. -/
theorem opp_iff {c x y v : Nat} (h1 : onC c x y false) (h2 : onC c x v false) : v = subP c 0 y ↔ y ≠ v := by
  obtain ⟨_, hy, e1⟩ := on_fin' h1
  obtain ⟨_, hv, e2⟩ := on_fin' h2
  have y0 := on_y h1
  rw [neg_eq c y hy y0]
  constructor
  · intro h e
    have ho := (modN_odd c).1
    omega
  · intro hne
    rcases two_roots (modN_prime c) hy hv (by have := e1.trans e2.symm; exact this) with h | h | h
    · exact absurd h hne
    · omega
    · omega
theorem on_inf {c x y : Nat} (h : onC c x y true) : x = 0 ∧ y = 0 := by
  unfold onC at h
  rcases h with ⟨a, b, _⟩ | ⟨h, _⟩
  · exact ⟨a, b⟩
  · cases h
theorem add_same (c x y : Nat) (i : Bool) (u v : Nat) (j : Bool) : addPt c x y i u v j = raddPt c x y i u v j := by
  unfold addPt raddPt
  by_cases h : ¬ onC c x y i ∨ ¬ onC c u v j
  · rw [if_pos h, if_pos h]
  · rw [if_neg h, if_neg h]
    have h1 : onC c x y i := Classical.byContradiction (fun k => h (Or.inl k))
    have h2 : onC c u v j := Classical.byContradiction (fun k => h (Or.inr k))
    unfold sumPt
    cases i with
    | true =>
      obtain ⟨a, b⟩ := on_inf h1
      rw [if_pos (show x = 0 ∧ y = 0 ∧ true = true from ⟨a, b, rfl⟩), if_pos (show true = true from rfl)]
    | false =>
      rw [if_neg (show ¬ (x = 0 ∧ y = 0 ∧ false = true) from fun k => by cases k.2.2), if_neg (show ¬ (false = true) from by decide)]
      cases j with
      | true =>
        obtain ⟨a, b⟩ := on_inf h2
        rw [if_pos (show u = 0 ∧ v = 0 ∧ true = true from ⟨a, b, rfl⟩), if_pos (show true = true from rfl)]
      | false =>
        rw [if_neg (show ¬ (u = 0 ∧ v = 0 ∧ false = true) from fun k => by cases k.2.2), if_neg (show ¬ (false = true) from by decide)]
        by_cases hx : x = u
        · subst hx
          have k := opp_iff h1 h2
          by_cases hv : v = subP c 0 y
          · rw [if_pos (show x = x ∧ v = subP c 0 y ∧ false = false from ⟨rfl, hv, rfl⟩), if_pos (show x = x ∧ y ≠ v from ⟨rfl, k.1 hv⟩)]
          · rw [if_neg (show ¬ (x = x ∧ v = subP c 0 y ∧ false = false) from fun q => hv q.2.1), if_neg (show ¬ (x = x ∧ y ≠ v) from fun q => hv (k.2 q.2))]
        · rw [if_neg (show ¬ (u = x ∧ v = subP c 0 y ∧ false = false) from fun q => hx q.1.symm), if_neg (show ¬ (x = u ∧ y ≠ v) from fun q => hx q.1)]

end Go.Proofs.YtaeembdabnomaaaGreatDoor

/- CurveSums: the walk. -/
namespace Go.Proofs.YtaeembdabnomaaaGreatDoor
open Go.RowKit

theorem eqlP_self (x y : Nat) (i : Bool) (hx : x < 115792089237316195423570985008687907853269984665640564039457584007913129639936) (hy : y < 115792089237316195423570985008687907853269984665640564039457584007913129639936) (w : World) : (binOp .eql 26 (.agg #[.int .u64 ((limb 0 (x) : Nat) : Int), .int .u64 ((limb 1 (x) : Nat) : Int), .int .u64 ((limb 2 (x) : Nat) : Int), .int .u64 ((limb 3 (x) : Nat) : Int), .int .u64 ((limb 0 (y) : Nat) : Int), .int .u64 ((limb 1 (y) : Nat) : Int), .int .u64 ((limb 2 (y) : Nat) : Int), .int .u64 ((limb 3 (y) : Nat) : Int), .bool i]) (.agg #[.int .u64 ((limb 0 (x) : Nat) : Int), .int .u64 ((limb 1 (x) : Nat) : Int), .int .u64 ((limb 2 (x) : Nat) : Int), .int .u64 ((limb 3 (x) : Nat) : Int), .int .u64 ((limb 0 (y) : Nat) : Int), .int .u64 ((limb 1 (y) : Nat) : Int), .int .u64 ((limb 2 (y) : Nat) : Int), .int .u64 ((limb 3 (y) : Nat) : Int), .bool i])).run Tryz.prog w = .ok (.bool true) w := by
  have h := eqlP x y x y i i hx hy hx hy w
  rw [decide_eq_true (⟨rfl, rfl, rfl⟩ : x = x ∧ y = y ∧ i = i)] at h
  exact h
set_option maxHeartbeats 8000000 in
set_option maxRecDepth 20000 in
theorem csums_gen (c : Int) (x y u v nx ny ax ay : Nat) (i j b ni ai : Bool) (h1 : nx < 115792089237316195423570985008687907853269984665640564039457584007913129639936) (h2 : ny < 115792089237316195423570985008687907853269984665640564039457584007913129639936) (h3 : ax < 115792089237316195423570985008687907853269984665640564039457584007913129639936) (h4 : ay < 115792089237316195423570985008687907853269984665640564039457584007913129639936)
    (D1 : ∀ w, GlobC w → Calls Tryz.prog 10 #[.int .i64 c, .agg #[.int .u64 ((limb 0 (x) : Nat) : Int), .int .u64 ((limb 1 (x) : Nat) : Int), .int .u64 ((limb 2 (x) : Nat) : Int), .int .u64 ((limb 3 (x) : Nat) : Int), .int .u64 ((limb 0 (y) : Nat) : Int), .int .u64 ((limb 1 (y) : Nat) : Int), .int .u64 ((limb 2 (y) : Nat) : Int), .int .u64 ((limb 3 (y) : Nat) : Int), .bool i]] w fun e w' => e = .returned (.bool b) ∧ Below w.heap.size w w')
    (D2 : ∀ w, GlobC w → Calls Tryz.prog 11 #[.int .i64 c, .agg #[.int .u64 ((limb 0 (x) : Nat) : Int), .int .u64 ((limb 1 (x) : Nat) : Int), .int .u64 ((limb 2 (x) : Nat) : Int), .int .u64 ((limb 3 (x) : Nat) : Int), .int .u64 ((limb 0 (y) : Nat) : Int), .int .u64 ((limb 1 (y) : Nat) : Int), .int .u64 ((limb 2 (y) : Nat) : Int), .int .u64 ((limb 3 (y) : Nat) : Int), .bool i]] w fun e w' => e = .returned (.bool b) ∧ Below w.heap.size w w')
    (D3 : ∀ w, GlobC w → Calls Tryz.prog 12 #[.int .i64 c, .agg #[.int .u64 ((limb 0 (x) : Nat) : Int), .int .u64 ((limb 1 (x) : Nat) : Int), .int .u64 ((limb 2 (x) : Nat) : Int), .int .u64 ((limb 3 (x) : Nat) : Int), .int .u64 ((limb 0 (y) : Nat) : Int), .int .u64 ((limb 1 (y) : Nat) : Int), .int .u64 ((limb 2 (y) : Nat) : Int), .int .u64 ((limb 3 (y) : Nat) : Int), .bool i]] w fun e w' => e = .returned (.agg #[.int .u64 ((limb 0 (nx) : Nat) : Int), .int .u64 ((limb 1 (nx) : Nat) : Int), .int .u64 ((limb 2 (nx) : Nat) : Int), .int .u64 ((limb 3 (nx) : Nat) : Int), .int .u64 ((limb 0 (ny) : Nat) : Int), .int .u64 ((limb 1 (ny) : Nat) : Int), .int .u64 ((limb 2 (ny) : Nat) : Int), .int .u64 ((limb 3 (ny) : Nat) : Int), .bool ni]) ∧ Below w.heap.size w w')
    (D4 : ∀ w, GlobC w → Calls Tryz.prog 13 #[.int .i64 c, .agg #[.int .u64 ((limb 0 (x) : Nat) : Int), .int .u64 ((limb 1 (x) : Nat) : Int), .int .u64 ((limb 2 (x) : Nat) : Int), .int .u64 ((limb 3 (x) : Nat) : Int), .int .u64 ((limb 0 (y) : Nat) : Int), .int .u64 ((limb 1 (y) : Nat) : Int), .int .u64 ((limb 2 (y) : Nat) : Int), .int .u64 ((limb 3 (y) : Nat) : Int), .bool i]] w fun e w' => e = .returned (.agg #[.int .u64 ((limb 0 (nx) : Nat) : Int), .int .u64 ((limb 1 (nx) : Nat) : Int), .int .u64 ((limb 2 (nx) : Nat) : Int), .int .u64 ((limb 3 (nx) : Nat) : Int), .int .u64 ((limb 0 (ny) : Nat) : Int), .int .u64 ((limb 1 (ny) : Nat) : Int), .int .u64 ((limb 2 (ny) : Nat) : Int), .int .u64 ((limb 3 (ny) : Nat) : Int), .bool ni]) ∧ Below w.heap.size w w')
    (D5 : ∀ w, GlobC w → Calls Tryz.prog 14 #[.int .i64 c, .agg #[.int .u64 ((limb 0 (x) : Nat) : Int), .int .u64 ((limb 1 (x) : Nat) : Int), .int .u64 ((limb 2 (x) : Nat) : Int), .int .u64 ((limb 3 (x) : Nat) : Int), .int .u64 ((limb 0 (y) : Nat) : Int), .int .u64 ((limb 1 (y) : Nat) : Int), .int .u64 ((limb 2 (y) : Nat) : Int), .int .u64 ((limb 3 (y) : Nat) : Int), .bool i], .agg #[.int .u64 ((limb 0 (u) : Nat) : Int), .int .u64 ((limb 1 (u) : Nat) : Int), .int .u64 ((limb 2 (u) : Nat) : Int), .int .u64 ((limb 3 (u) : Nat) : Int), .int .u64 ((limb 0 (v) : Nat) : Int), .int .u64 ((limb 1 (v) : Nat) : Int), .int .u64 ((limb 2 (v) : Nat) : Int), .int .u64 ((limb 3 (v) : Nat) : Int), .bool j]] w fun e w' => e = .returned (.agg #[.int .u64 ((limb 0 (ax) : Nat) : Int), .int .u64 ((limb 1 (ax) : Nat) : Int), .int .u64 ((limb 2 (ax) : Nat) : Int), .int .u64 ((limb 3 (ax) : Nat) : Int), .int .u64 ((limb 0 (ay) : Nat) : Int), .int .u64 ((limb 1 (ay) : Nat) : Int), .int .u64 ((limb 2 (ay) : Nat) : Int), .int .u64 ((limb 3 (ay) : Nat) : Int), .bool ai]) ∧ Below w.heap.size w w')
    (D6 : ∀ w, GlobC w → Calls Tryz.prog 15 #[.int .i64 c, .agg #[.int .u64 ((limb 0 (x) : Nat) : Int), .int .u64 ((limb 1 (x) : Nat) : Int), .int .u64 ((limb 2 (x) : Nat) : Int), .int .u64 ((limb 3 (x) : Nat) : Int), .int .u64 ((limb 0 (y) : Nat) : Int), .int .u64 ((limb 1 (y) : Nat) : Int), .int .u64 ((limb 2 (y) : Nat) : Int), .int .u64 ((limb 3 (y) : Nat) : Int), .bool i], .agg #[.int .u64 ((limb 0 (u) : Nat) : Int), .int .u64 ((limb 1 (u) : Nat) : Int), .int .u64 ((limb 2 (u) : Nat) : Int), .int .u64 ((limb 3 (u) : Nat) : Int), .int .u64 ((limb 0 (v) : Nat) : Int), .int .u64 ((limb 1 (v) : Nat) : Int), .int .u64 ((limb 2 (v) : Nat) : Int), .int .u64 ((limb 3 (v) : Nat) : Int), .bool j]] w fun e w' => e = .returned (.agg #[.int .u64 ((limb 0 (ax) : Nat) : Int), .int .u64 ((limb 1 (ax) : Nat) : Int), .int .u64 ((limb 2 (ax) : Nat) : Int), .int .u64 ((limb 3 (ax) : Nat) : Int), .int .u64 ((limb 0 (ay) : Nat) : Int), .int .u64 ((limb 1 (ay) : Nat) : Int), .int .u64 ((limb 2 (ay) : Nat) : Int), .int .u64 ((limb 3 (ay) : Nat) : Int), .bool ai]) ∧ Below w.heap.size w w')
    (w : World) (hg : GlobC w) :
    Calls Tryz.prog 3 #[.int .i64 c, .agg #[.int .u64 ((limb 0 (x) : Nat) : Int), .int .u64 ((limb 1 (x) : Nat) : Int), .int .u64 ((limb 2 (x) : Nat) : Int), .int .u64 ((limb 3 (x) : Nat) : Int), .int .u64 ((limb 0 (y) : Nat) : Int), .int .u64 ((limb 1 (y) : Nat) : Int), .int .u64 ((limb 2 (y) : Nat) : Int), .int .u64 ((limb 3 (y) : Nat) : Int), .bool i], .agg #[.int .u64 ((limb 0 (u) : Nat) : Int), .int .u64 ((limb 1 (u) : Nat) : Int), .int .u64 ((limb 2 (u) : Nat) : Int), .int .u64 ((limb 3 (u) : Nat) : Int), .int .u64 ((limb 0 (v) : Nat) : Int), .int .u64 ((limb 1 (v) : Nat) : Int), .int .u64 ((limb 2 (v) : Nat) : Int), .int .u64 ((limb 3 (v) : Nat) : Int), .bool j]] w fun e w' => e = .returned (.bool true) ∧ Below w.heap.size w w' := by
  have HG0 : Hid (GlobC w) := hg
  have HD1 := (show Hid _ from D1); have HD2 := (show Hid _ from D2); have HD3 := (show Hid _ from D3); have HD4 := (show Hid _ from D4); have HD5 := (show Hid _ from D5); have HD6 := (show Hid _ from D6)
  have HAL : Hid (∀ w, GlobC w → _) := fun w hg => alive4_any w hg
  have QN := fun w => eqlP_self nx ny ni h1 h2 w
  have QA := fun w => eqlP_self ax ay ai h3 h4 w
  have QB : (b == b) = true := by simp
  clear hg D1 D2 D3 D4 D5 D6 h1 h2 h3 h4
  go_enter Tryz.func3, Tryz.ntmps3
  go_upto_region 1 with fail
  obtain ⟨w0, hw0⟩ : ∃ w0 : World, w0 = (w.alloc (.cells #[.int .u64 ((limb 0 x : Nat) : Int), .int .u64 ((limb 1 x : Nat) : Int), .int .u64 ((limb 2 x : Nat) : Int), .int .u64 ((limb 3 x : Nat) : Int), .int .u64 ((limb 0 y : Nat) : Int), .int .u64 ((limb 1 y : Nat) : Int), .int .u64 ((limb 2 y : Nat) : Int), .int .u64 ((limb 3 y : Nat) : Int), .bool i] 26)).alloc (.cells #[.int .u64 ((limb 0 u : Nat) : Int), .int .u64 ((limb 1 u : Nat) : Int), .int .u64 ((limb 2 u : Nat) : Int), .int .u64 ((limb 3 u : Nat) : Int), .int .u64 ((limb 0 v : Nat) : Int), .int .u64 ((limb 1 v : Nat) : Int), .int .u64 ((limb 2 v : Nat) : Int), .int .u64 ((limb 3 v : Nat) : Int), .bool j] 26) := ⟨_, rfl⟩
  have bp0 : Pt w0 w.heap.size x y i := by rw [hw0]; exact (Pt.newAt _ _ _ _ _ rfl).alloc _
  have bq0 : Pt w0 (w.heap.size + 1) u v j := by rw [hw0]; exact Pt.newAt _ _ _ _ _ (by simp)
  have hbw0 : Below w.heap.size w w0 := by rw [hw0]; exact bAlloc ((Below.refl _ _).alloc (Nat.le_refl _) _) _
  rw [← hw0]
  clear hw0
  go_wp2_with fail
  refine (HAL.out _ (HG0.out.below hbw0)).mono ?_
  rintro e w1 ⟨rfl, hb1⟩
  have bp := bp0.belowAll hb1; have bq := bq0.belowAll hb1
  have hbw1 := bStep hbw0 hb1
  have HG : Hid (GlobC w1) := HG0.out.below hbw1
  clear bp0 bq0 hbw0 hb1 HAL
  go_upto_region 3 with fail
  have HS0 : Hid (Below w1.heap.size w1 w1.drew) := (Below.refl _ _).drew
  refine wp_region_Z (fun w' => Below w1.heap.size w1 w') 99 (by kernel_rfl) ?_
  refine wpZ_take (i := 0) (v := .int .i64 c) 9 rfl rfl (by kernel_rfl) (by kernel_rfl) (by kernel_rfl) (Or.inr (by decide)) (fun _ _ _ h => h) (Or.inl ⟨by rfl, fun w hSw => by go_simp⟩) HS0.out ?_
  simp only [Act.put, List.setIfInBounds_toArray]
  dsimp only [List.set_cons_zero, List.set_cons_succ]
  refine wpZ_take (i := 1) (v := .agg #[.int .u64 ((limb 0 (x) : Nat) : Int), .int .u64 ((limb 1 (x) : Nat) : Int), .int .u64 ((limb 2 (x) : Nat) : Int), .int .u64 ((limb 3 (x) : Nat) : Int), .int .u64 ((limb 0 (y) : Nat) : Int), .int .u64 ((limb 1 (y) : Nat) : Int), .int .u64 ((limb 2 (y) : Nat) : Int), .int .u64 ((limb 3 (y) : Nat) : Int), .bool i]) 10 rfl rfl (by kernel_rfl) (by kernel_rfl) (by kernel_rfl) (Or.inr (by decide)) (fun _ _ _ h => h) (Or.inl ⟨by rfl, fun w hSw => by (obtain ⟨q0, q1, q2, q3, q4, q5, q6, q7, q8, qf⟩ := (bp.belowAll hSw).cells; clear hSw; go_simp)⟩) HS0.out ?_
  simp only [Act.put, List.setIfInBounds_toArray]
  dsimp only [List.set_cons_zero, List.set_cons_succ]
  refine wpZ_take (i := 3) (v := .int .i64 c) 12 rfl rfl (by kernel_rfl) (by kernel_rfl) (by kernel_rfl) (Or.inr (by decide)) (fun _ _ _ h => h) (Or.inl ⟨by rfl, fun w hSw => by go_simp⟩) HS0.out ?_
  simp only [Act.put, List.setIfInBounds_toArray]
  dsimp only [List.set_cons_zero, List.set_cons_succ]
  refine wpZ_take (i := 4) (v := .agg #[.int .u64 ((limb 0 (x) : Nat) : Int), .int .u64 ((limb 1 (x) : Nat) : Int), .int .u64 ((limb 2 (x) : Nat) : Int), .int .u64 ((limb 3 (x) : Nat) : Int), .int .u64 ((limb 0 (y) : Nat) : Int), .int .u64 ((limb 1 (y) : Nat) : Int), .int .u64 ((limb 2 (y) : Nat) : Int), .int .u64 ((limb 3 (y) : Nat) : Int), .bool i]) 13 rfl rfl (by kernel_rfl) (by kernel_rfl) (by kernel_rfl) (Or.inr (by decide)) (fun _ _ _ h => h) (Or.inl ⟨by rfl, fun w hSw => by (obtain ⟨q0, q1, q2, q3, q4, q5, q6, q7, q8, qf⟩ := (bp.belowAll hSw).cells; clear hSw; go_simp)⟩) HS0.out ?_
  simp only [Act.put, List.setIfInBounds_toArray]
  dsimp only [List.set_cons_zero, List.set_cons_succ]
  refine wpZ_one (i := 2) (by kernel_rfl) rfl (fun K hK => ?_)
  go_simp
  refine (HD1.out w1.drew (HG.out.below (HS0.out))).mono ?_
  rintro e wK1 ⟨rfl, hbK1⟩
  have hSK1 : Below w1.heap.size w1 wK1 := bStep (HS0.out) hbK1
  go_wp2_with fail
  refine hK.out _ _ (fun _ => hSK1) ?_
  clear hK K
  refine wpZ_one (i := 5) (by kernel_rfl) rfl (fun K hK => ?_)
  go_simp
  refine (HD2.out wK1 (HG.out.below (hSK1))).mono ?_
  rintro e wK2 ⟨rfl, hbK2⟩
  have hSK2 : Below w1.heap.size w1 wK2 := bStep (hSK1) hbK2
  go_wp2_with fail
  refine hK.out _ _ (fun _ => hSK2) ?_
  clear hK K
  refine wpZ_take (i := 6) (v := .bool true) 15 rfl rfl (by kernel_rfl) (by kernel_rfl) (by kernel_rfl) (Or.inr (by decide)) (fun _ _ _ h => h) (Or.inl ⟨by rfl, fun w hSw => by go_simp⟩) hSK2 ?_
  simp only [Act.put, List.setIfInBounds_toArray]
  dsimp only [List.set_cons_zero, List.set_cons_succ]
  refine wpZ_take (i := 7) (v := .bool true) 16 rfl rfl (by kernel_rfl) (by kernel_rfl) (by kernel_rfl) (Or.inr (by decide)) (fun _ _ _ h => h) (Or.inl ⟨by rfl, fun w hSw => by go_simp⟩) hSK2 ?_
  simp only [Act.put, List.setIfInBounds_toArray]
  dsimp only [List.set_cons_zero, List.set_cons_succ]
  refine wpZ_take (i := 8) (v := .int .i64 c) 17 rfl rfl (by kernel_rfl) (by kernel_rfl) (by kernel_rfl) (Or.inr (by decide)) (fun _ _ _ h => h) (Or.inl ⟨by rfl, fun w hSw => by go_simp⟩) hSK2 ?_
  simp only [Act.put, List.setIfInBounds_toArray]
  dsimp only [List.set_cons_zero, List.set_cons_succ]
  refine wpZ_take (i := 9) (v := .agg #[.int .u64 ((limb 0 (x) : Nat) : Int), .int .u64 ((limb 1 (x) : Nat) : Int), .int .u64 ((limb 2 (x) : Nat) : Int), .int .u64 ((limb 3 (x) : Nat) : Int), .int .u64 ((limb 0 (y) : Nat) : Int), .int .u64 ((limb 1 (y) : Nat) : Int), .int .u64 ((limb 2 (y) : Nat) : Int), .int .u64 ((limb 3 (y) : Nat) : Int), .bool i]) 18 rfl rfl (by kernel_rfl) (by kernel_rfl) (by kernel_rfl) (Or.inr (by decide)) (fun _ _ _ h => h) (Or.inl ⟨by rfl, fun w hSw => by (obtain ⟨q0, q1, q2, q3, q4, q5, q6, q7, q8, qf⟩ := (bp.belowAll hSw).cells; clear hSw; go_simp)⟩) hSK2 ?_
  simp only [Act.put, List.setIfInBounds_toArray]
  dsimp only [List.set_cons_zero, List.set_cons_succ]
  refine wpZ_take (i := 11) (v := .int .i64 c) 20 rfl rfl (by kernel_rfl) (by kernel_rfl) (by kernel_rfl) (Or.inr (by decide)) (fun _ _ _ h => h) (Or.inl ⟨by rfl, fun w hSw => by go_simp⟩) hSK2 ?_
  simp only [Act.put, List.setIfInBounds_toArray]
  dsimp only [List.set_cons_zero, List.set_cons_succ]
  refine wpZ_take (i := 12) (v := .agg #[.int .u64 ((limb 0 (x) : Nat) : Int), .int .u64 ((limb 1 (x) : Nat) : Int), .int .u64 ((limb 2 (x) : Nat) : Int), .int .u64 ((limb 3 (x) : Nat) : Int), .int .u64 ((limb 0 (y) : Nat) : Int), .int .u64 ((limb 1 (y) : Nat) : Int), .int .u64 ((limb 2 (y) : Nat) : Int), .int .u64 ((limb 3 (y) : Nat) : Int), .bool i]) 21 rfl rfl (by kernel_rfl) (by kernel_rfl) (by kernel_rfl) (Or.inr (by decide)) (fun _ _ _ h => h) (Or.inl ⟨by rfl, fun w hSw => by (obtain ⟨q0, q1, q2, q3, q4, q5, q6, q7, q8, qf⟩ := (bp.belowAll hSw).cells; clear hSw; go_simp)⟩) hSK2 ?_
  simp only [Act.put, List.setIfInBounds_toArray]
  dsimp only [List.set_cons_zero, List.set_cons_succ]
  refine wpZ_one (i := 10) (by kernel_rfl) rfl (fun K hK => ?_)
  go_simp
  refine (HD3.out wK2 (HG.out.below (hSK2))).mono ?_
  rintro e wK3 ⟨rfl, hbK3⟩
  have hSK3 : Below w1.heap.size w1 wK3 := bStep (hSK2) hbK3
  go_wp2_with fail
  refine hK.out _ _ (fun _ => hSK3) ?_
  clear hK K
  refine wpZ_one (i := 13) (by kernel_rfl) rfl (fun K hK => ?_)
  go_simp
  refine (HD4.out wK3 (HG.out.below (hSK3))).mono ?_
  rintro e wK4 ⟨rfl, hbK4⟩
  have hSK4 : Below w1.heap.size w1 wK4 := bStep (hSK3) hbK4
  go_wp2_with fail
  refine hK.out _ _ (fun _ => hSK4) ?_
  clear hK K
  refine wpZ_take (i := 14) (v := .bool true) 23 rfl rfl (by kernel_rfl) (by kernel_rfl) (by kernel_rfl) (Or.inr (by decide)) (fun _ _ _ h => h) (Or.inl ⟨by rfl, fun w hSw => by go_simp⟩) hSK4 ?_
  simp only [Act.put, List.setIfInBounds_toArray]
  dsimp only [List.set_cons_zero, List.set_cons_succ]
  refine wpZ_take (i := 15) (v := .bool true) 24 rfl rfl (by kernel_rfl) (by kernel_rfl) (by kernel_rfl) (Or.inr (by decide)) (fun _ _ _ h => h) (Or.inl ⟨by rfl, fun w hSw => by go_simp⟩) hSK4 ?_
  simp only [Act.put, List.setIfInBounds_toArray]
  dsimp only [List.set_cons_zero, List.set_cons_succ]
  refine wpZ_take (i := 16) (v := .bool true) 25 rfl rfl (by kernel_rfl) (by kernel_rfl) (by kernel_rfl) (Or.inr (by decide)) (fun _ _ _ h => h) (Or.inl ⟨by rfl, fun w hSw => by go_simp⟩) hSK4 ?_
  simp only [Act.put, List.setIfInBounds_toArray]
  dsimp only [List.set_cons_zero, List.set_cons_succ]
  refine wpZ_take (i := 17) (v := .int .i64 c) 26 rfl rfl (by kernel_rfl) (by kernel_rfl) (by kernel_rfl) (Or.inr (by decide)) (fun _ _ _ h => h) (Or.inl ⟨by rfl, fun w hSw => by go_simp⟩) hSK4 ?_
  simp only [Act.put, List.setIfInBounds_toArray]
  dsimp only [List.set_cons_zero, List.set_cons_succ]
  refine wpZ_take (i := 18) (v := .agg #[.int .u64 ((limb 0 (x) : Nat) : Int), .int .u64 ((limb 1 (x) : Nat) : Int), .int .u64 ((limb 2 (x) : Nat) : Int), .int .u64 ((limb 3 (x) : Nat) : Int), .int .u64 ((limb 0 (y) : Nat) : Int), .int .u64 ((limb 1 (y) : Nat) : Int), .int .u64 ((limb 2 (y) : Nat) : Int), .int .u64 ((limb 3 (y) : Nat) : Int), .bool i]) 27 rfl rfl (by kernel_rfl) (by kernel_rfl) (by kernel_rfl) (Or.inr (by decide)) (fun _ _ _ h => h) (Or.inl ⟨by rfl, fun w hSw => by (obtain ⟨q0, q1, q2, q3, q4, q5, q6, q7, q8, qf⟩ := (bp.belowAll hSw).cells; clear hSw; go_simp)⟩) hSK4 ?_
  simp only [Act.put, List.setIfInBounds_toArray]
  dsimp only [List.set_cons_zero, List.set_cons_succ]
  refine wpZ_take (i := 19) (v := .agg #[.int .u64 ((limb 0 (u) : Nat) : Int), .int .u64 ((limb 1 (u) : Nat) : Int), .int .u64 ((limb 2 (u) : Nat) : Int), .int .u64 ((limb 3 (u) : Nat) : Int), .int .u64 ((limb 0 (v) : Nat) : Int), .int .u64 ((limb 1 (v) : Nat) : Int), .int .u64 ((limb 2 (v) : Nat) : Int), .int .u64 ((limb 3 (v) : Nat) : Int), .bool j]) 28 rfl rfl (by kernel_rfl) (by kernel_rfl) (by kernel_rfl) (Or.inr (by decide)) (fun _ _ _ h => h) (Or.inl ⟨by rfl, fun w hSw => by (obtain ⟨q0, q1, q2, q3, q4, q5, q6, q7, q8, qf⟩ := (bq.belowAll hSw).cells; clear hSw; go_simp)⟩) hSK4 ?_
  simp only [Act.put, List.setIfInBounds_toArray]
  dsimp only [List.set_cons_zero, List.set_cons_succ]
  refine wpZ_take (i := 21) (v := .int .i64 c) 30 rfl rfl (by kernel_rfl) (by kernel_rfl) (by kernel_rfl) (Or.inr (by decide)) (fun _ _ _ h => h) (Or.inl ⟨by rfl, fun w hSw => by go_simp⟩) hSK4 ?_
  simp only [Act.put, List.setIfInBounds_toArray]
  dsimp only [List.set_cons_zero, List.set_cons_succ]
  refine wpZ_take (i := 22) (v := .agg #[.int .u64 ((limb 0 (x) : Nat) : Int), .int .u64 ((limb 1 (x) : Nat) : Int), .int .u64 ((limb 2 (x) : Nat) : Int), .int .u64 ((limb 3 (x) : Nat) : Int), .int .u64 ((limb 0 (y) : Nat) : Int), .int .u64 ((limb 1 (y) : Nat) : Int), .int .u64 ((limb 2 (y) : Nat) : Int), .int .u64 ((limb 3 (y) : Nat) : Int), .bool i]) 31 rfl rfl (by kernel_rfl) (by kernel_rfl) (by kernel_rfl) (Or.inr (by decide)) (fun _ _ _ h => h) (Or.inl ⟨by rfl, fun w hSw => by (obtain ⟨q0, q1, q2, q3, q4, q5, q6, q7, q8, qf⟩ := (bp.belowAll hSw).cells; clear hSw; go_simp)⟩) hSK4 ?_
  simp only [Act.put, List.setIfInBounds_toArray]
  dsimp only [List.set_cons_zero, List.set_cons_succ]
  refine wpZ_take (i := 23) (v := .agg #[.int .u64 ((limb 0 (u) : Nat) : Int), .int .u64 ((limb 1 (u) : Nat) : Int), .int .u64 ((limb 2 (u) : Nat) : Int), .int .u64 ((limb 3 (u) : Nat) : Int), .int .u64 ((limb 0 (v) : Nat) : Int), .int .u64 ((limb 1 (v) : Nat) : Int), .int .u64 ((limb 2 (v) : Nat) : Int), .int .u64 ((limb 3 (v) : Nat) : Int), .bool j]) 32 rfl rfl (by kernel_rfl) (by kernel_rfl) (by kernel_rfl) (Or.inr (by decide)) (fun _ _ _ h => h) (Or.inl ⟨by rfl, fun w hSw => by (obtain ⟨q0, q1, q2, q3, q4, q5, q6, q7, q8, qf⟩ := (bq.belowAll hSw).cells; clear hSw; go_simp)⟩) hSK4 ?_
  simp only [Act.put, List.setIfInBounds_toArray]
  dsimp only [List.set_cons_zero, List.set_cons_succ]
  refine wpZ_one (i := 20) (by kernel_rfl) rfl (fun K hK => ?_)
  go_simp
  refine (HD5.out wK4 (HG.out.below (hSK4))).mono ?_
  rintro e wK5 ⟨rfl, hbK5⟩
  have hSK5 : Below w1.heap.size w1 wK5 := bStep (hSK4) hbK5
  go_wp2_with fail
  refine hK.out _ _ (fun _ => hSK5) ?_
  clear hK K
  refine wpZ_one (i := 24) (by kernel_rfl) rfl (fun K hK => ?_)
  go_simp
  refine (HD6.out wK5 (HG.out.below (hSK5))).mono ?_
  rintro e wK6 ⟨rfl, hbK6⟩
  have hSK6 : Below w1.heap.size w1 wK6 := bStep (hSK5) hbK6
  go_wp2_with fail
  refine hK.out _ _ (fun _ => hSK6) ?_
  clear hK K
  refine wpZ_take (i := 25) (v := .bool true) 34 rfl rfl (by kernel_rfl) (by kernel_rfl) (by kernel_rfl) (Or.inr (by decide)) (fun _ _ _ h => h) (Or.inl ⟨by rfl, fun w hSw => by go_simp⟩) hSK6 ?_
  simp only [Act.put, List.setIfInBounds_toArray]
  dsimp only [List.set_cons_zero, List.set_cons_succ]
  refine wpZ_take (i := 26) (v := .bool true) 35 rfl rfl (by kernel_rfl) (by kernel_rfl) (by kernel_rfl) (Or.inr (by decide)) (fun _ _ _ h => h) (Or.inl ⟨by rfl, fun w hSw => by go_simp⟩) hSK6 ?_
  simp only [Act.put, List.setIfInBounds_toArray]
  dsimp only [List.set_cons_zero, List.set_cons_succ]
  refine wpZ_take (i := 27) (v := .bool true) 6 rfl rfl (by kernel_rfl) (by kernel_rfl) (by kernel_rfl) (Or.inr (by decide)) (fun _ _ _ h => h) (Or.inl ⟨by rfl, fun w hSw => by go_simp⟩) hSK6 ?_
  simp only [Act.put, List.setIfInBounds_toArray]
  dsimp only [List.set_cons_zero, List.set_cons_succ]
  refine wpZ_done (by kernel_rfl) ?_ _
  go_wp2
  go_ret
  exact ⟨rfl, bStep hbw1 (hSK6)⟩

theorem addPt_lt (c x y : Nat) (i : Bool) (u v : Nat) (j : Bool) (hx : x < 115792089237316195423570985008687907853269984665640564039457584007913129639936) (hy : y < 115792089237316195423570985008687907853269984665640564039457584007913129639936) (hu : u < 115792089237316195423570985008687907853269984665640564039457584007913129639936) (hv : v < 115792089237316195423570985008687907853269984665640564039457584007913129639936) : (addPt c x y i u v j).1 < 115792089237316195423570985008687907853269984665640564039457584007913129639936 ∧ (addPt c x y i u v j).2.1 < 115792089237316195423570985008687907853269984665640564039457584007913129639936 := by
  unfold addPt
  split
  · exact ⟨by decide, by decide⟩
  · split
    · exact ⟨hu, hv⟩
    · split
      · exact ⟨hx, hy⟩
      · split
        · exact ⟨by decide, by decide⟩
        · exact ⟨subP_M _ _ _, subP_M _ _ _⟩
/-- CurveSums of a curve that there is. -/
theorem csums_in (c x y u v : Nat) (i j : Bool) (hc : c < 4) (hx : x < 115792089237316195423570985008687907853269984665640564039457584007913129639936) (hy : y < 115792089237316195423570985008687907853269984665640564039457584007913129639936) (hu : u < 115792089237316195423570985008687907853269984665640564039457584007913129639936) (hv : v < 115792089237316195423570985008687907853269984665640564039457584007913129639936) (w : World) (hg : GlobC w) :
    Calls Tryz.prog 3 #[.int .i64 (c : Int), .agg #[.int .u64 ((limb 0 (x) : Nat) : Int), .int .u64 ((limb 1 (x) : Nat) : Int), .int .u64 ((limb 2 (x) : Nat) : Int), .int .u64 ((limb 3 (x) : Nat) : Int), .int .u64 ((limb 0 (y) : Nat) : Int), .int .u64 ((limb 1 (y) : Nat) : Int), .int .u64 ((limb 2 (y) : Nat) : Int), .int .u64 ((limb 3 (y) : Nat) : Int), .bool i], .agg #[.int .u64 ((limb 0 (u) : Nat) : Int), .int .u64 ((limb 1 (u) : Nat) : Int), .int .u64 ((limb 2 (u) : Nat) : Int), .int .u64 ((limb 3 (u) : Nat) : Int), .int .u64 ((limb 0 (v) : Nat) : Int), .int .u64 ((limb 1 (v) : Nat) : Int), .int .u64 ((limb 2 (v) : Nat) : Int), .int .u64 ((limb 3 (v) : Nat) : Int), .bool j]] w fun e w' => e = .returned (.bool true) ∧ Below w.heap.size w w' := by
  refine csums_gen c x y u v (negX c x y i) (negY c x y i) (addPt c x y i u v j).1 (addPt c x y i u v j).2.1 i j (decide (onC c x y i)) (negI c x y i) (addPt c x y i u v j).2.2 ?_ ?_ (addPt_lt c x y i u v j hx hy hu hv).1 (addPt_lt c x y i u v j hx hy hu hv).2 (fun w hg => on_in c x y i hc hx hy w hg) (fun w _ => ron_in c x y i hc hx hy w) (fun w hg => neg_in c x y i hc hx hy w hg) (fun w _ => rneg_in c x y i hc hx hy w) (fun w hg => add_in c x y u v i j hc hx hy hu hv w hg) (fun w _ => ?_) w hg
  · unfold negX; split; exact hx; decide
  · unfold negY; split; exact subP_M _ _ _; decide
  · rw [add_same]; exact radd_in c x y u v i j hc hx hy hu hv w

end Go.Proofs.YtaeembdabnomaaaGreatDoor

/- Curves that there aren't; CurveSums of anything. -/
namespace Go.Proofs.YtaeembdabnomaaaGreatDoor
open Go.RowKit

set_option maxHeartbeats 2000000 in
theorem on_out (c : Int) (hc : c < 0 ∨ 4 ≤ c) (x y : Nat) (i : Bool) (w : World) : Calls Tryz.prog 10 #[.int .i64 c, .agg #[.int .u64 ((limb 0 (x) : Nat) : Int), .int .u64 ((limb 1 (x) : Nat) : Int), .int .u64 ((limb 2 (x) : Nat) : Int), .int .u64 ((limb 3 (x) : Nat) : Int), .int .u64 ((limb 0 (y) : Nat) : Int), .int .u64 ((limb 1 (y) : Nat) : Int), .int .u64 ((limb 2 (y) : Nat) : Int), .int .u64 ((limb 3 (y) : Nat) : Int), .bool i]] w fun e w' => e = .returned (.bool false) ∧ Below w.heap.size w w' := by
  have HIC : Hid (∀ w, _) := fun w => isCurve_out c hc w
  clear hc
  go_enter Tryz.func10, Tryz.ntmps10
  go_wp2_with fail
  obtain ⟨w0, hw0⟩ : ∃ w0 : World, w0 = w.alloc (.cells #[.int .u64 ((limb 0 x : Nat) : Int), .int .u64 ((limb 1 x : Nat) : Int), .int .u64 ((limb 2 x : Nat) : Int), .int .u64 ((limb 3 x : Nat) : Int), .int .u64 ((limb 0 y : Nat) : Int), .int .u64 ((limb 1 y : Nat) : Int), .int .u64 ((limb 2 y : Nat) : Int), .int .u64 ((limb 3 y : Nat) : Int), .bool i] 26) := ⟨_, rfl⟩
  have hbw0 : Below w.heap.size w w0 := by rw [hw0]; exact (Below.refl _ _).alloc (Nat.le_refl _) _
  rw [← hw0]
  clear hw0
  refine (HIC.out _).mono ?_
  rintro e w1 ⟨rfl, hw1⟩
  rw [hw1]
  clear hw1
  go_wp2
  go_ret
  exact ⟨rfl, hbw0⟩
set_option maxHeartbeats 2000000 in
theorem ron_out (c : Int) (hc : c < 0 ∨ 4 ≤ c) (x y : Nat) (i : Bool) (w : World) : Calls Tryz.prog 11 #[.int .i64 c, .agg #[.int .u64 ((limb 0 (x) : Nat) : Int), .int .u64 ((limb 1 (x) : Nat) : Int), .int .u64 ((limb 2 (x) : Nat) : Int), .int .u64 ((limb 3 (x) : Nat) : Int), .int .u64 ((limb 0 (y) : Nat) : Int), .int .u64 ((limb 1 (y) : Nat) : Int), .int .u64 ((limb 2 (y) : Nat) : Int), .int .u64 ((limb 3 (y) : Nat) : Int), .bool i]] w fun e w' => e = .returned (.bool false) ∧ Below w.heap.size w w' := by
  by_cases h0 : c < 0
  · clear hc
    go_enter Tryz.func11, Tryz.ntmps11
    go_wp2
    go_ret
    exact ⟨rfl, (Below.refl _ _).alloc (Nat.le_refl _) _⟩
  · have h3 : 3 < c := by omega
    clear hc
    go_enter Tryz.func11, Tryz.ntmps11
    go_wp2
    go_ret
    exact ⟨rfl, (Below.refl _ _).alloc (Nat.le_refl _) _⟩
set_option maxHeartbeats 4000000 in
set_option maxRecDepth 20000 in
theorem neg_out (c : Int) (hc : c < 0 ∨ 4 ≤ c) (x y : Nat) (i : Bool) (w : World) : Calls Tryz.prog 12 #[.int .i64 c, .agg #[.int .u64 ((limb 0 (x) : Nat) : Int), .int .u64 ((limb 1 (x) : Nat) : Int), .int .u64 ((limb 2 (x) : Nat) : Int), .int .u64 ((limb 3 (x) : Nat) : Int), .int .u64 ((limb 0 (y) : Nat) : Int), .int .u64 ((limb 1 (y) : Nat) : Int), .int .u64 ((limb 2 (y) : Nat) : Int), .int .u64 ((limb 3 (y) : Nat) : Int), .bool i]] w fun e w' => e = .returned (.agg #[.int .u64 ((limb 0 (0) : Nat) : Int), .int .u64 ((limb 1 (0) : Nat) : Int), .int .u64 ((limb 2 (0) : Nat) : Int), .int .u64 ((limb 3 (0) : Nat) : Int), .int .u64 ((limb 0 (0) : Nat) : Int), .int .u64 ((limb 1 (0) : Nat) : Int), .int .u64 ((limb 2 (0) : Nat) : Int), .int .u64 ((limb 3 (0) : Nat) : Int), .bool true]) ∧ Below w.heap.size w w' := by
  have HON : Hid (∀ w, _) := fun w => on_out c hc x y i w
  have HIN : Hid (∀ w, _) := infinity_any
  clear hc
  go_enter Tryz.func12, Tryz.ntmps12
  go_upto_region 1 with fail
  obtain ⟨w0, hw0⟩ : ∃ w0 : World, w0 = (w.alloc (.cells #[.int .u64 ((limb 0 x : Nat) : Int), .int .u64 ((limb 1 x : Nat) : Int), .int .u64 ((limb 2 x : Nat) : Int), .int .u64 ((limb 3 x : Nat) : Int), .int .u64 ((limb 0 y : Nat) : Int), .int .u64 ((limb 1 y : Nat) : Int), .int .u64 ((limb 2 y : Nat) : Int), .int .u64 ((limb 3 y : Nat) : Int), .bool i] 26)).alloc (.cells #[.int .u64 0, .int .u64 0, .int .u64 0, .int .u64 0, .int .u64 0, .int .u64 0, .int .u64 0, .int .u64 0, .bool false] 26) := ⟨_, rfl⟩
  have bp : Pt w0 w.heap.size x y i := by rw [hw0]; exact (Pt.newAt _ _ _ _ _ rfl).alloc _
  have br : Pt w0 (w.heap.size + 1) 0 0 false := by rw [hw0]; exact Pt.zeroAt _ _ (by simp)
  have hbw0 : Below w.heap.size w w0 := by rw [hw0]; exact bAlloc ((Below.refl _ _).alloc (Nat.le_refl _) _) _
  have hrw : w.heap.size ≤ w.heap.size + 1 := Nat.le_succ _
  rw [← hw0]
  clear hw0
  go_cut [13] (fun b wx => b = .bool true ∧ Below w0.heap.size w0 wx)
  case first =>
    have HS0 : Hid (Below w0.heap.size w0 w0.drew) := (Below.refl _ _).drew
    refine wp_region_Z (fun w' => Below w0.heap.size w0 w') 99 (by kernel_rfl) ?_
    refine wpZ_take (i := 0) (v := .int .i64 c) 5 rfl rfl (by kernel_rfl) (by kernel_rfl) (by kernel_rfl) (Or.inr (by decide)) (fun _ _ _ h => h) (Or.inl ⟨by rfl, fun w hSw => by go_simp⟩) HS0.out ?_
    simp only [Act.put, List.setIfInBounds_toArray]
    dsimp only [List.set_cons_zero, List.set_cons_succ]
    refine wpZ_take (i := 1) (v := .agg #[.int .u64 ((limb 0 (x) : Nat) : Int), .int .u64 ((limb 1 (x) : Nat) : Int), .int .u64 ((limb 2 (x) : Nat) : Int), .int .u64 ((limb 3 (x) : Nat) : Int), .int .u64 ((limb 0 (y) : Nat) : Int), .int .u64 ((limb 1 (y) : Nat) : Int), .int .u64 ((limb 2 (y) : Nat) : Int), .int .u64 ((limb 3 (y) : Nat) : Int), .bool i]) 6 rfl rfl (by kernel_rfl) (by kernel_rfl) (by kernel_rfl) (Or.inr (by decide)) (fun _ _ _ h => h) (Or.inl ⟨by rfl, fun w hSw => by (obtain ⟨q0, q1, q2, q3, q4, q5, q6, q7, q8, qf⟩ := (bp.belowAll hSw).cells; clear hSw; go_simp)⟩) HS0.out ?_
    simp only [Act.put, List.setIfInBounds_toArray]
    dsimp only [List.set_cons_zero, List.set_cons_succ]
    refine wpZ_one (i := 2) (by kernel_rfl) rfl (fun K hK => ?_)
    go_simp
    refine (HON.out w0.drew).mono ?_
    rintro e wK1 ⟨rfl, hbK1⟩
    have hSK1 : Below w0.heap.size w0 wK1 := bStep (HS0.out) hbK1
    go_wp2_with fail
    refine hK.out _ _ (fun _ => hSK1) ?_
    clear hK K
    refine wpZ_take (i := 3) (v := .bool true) 8 rfl rfl (by kernel_rfl) (by kernel_rfl) (by kernel_rfl) (Or.inr (by decide)) (fun _ _ _ h => h) (Or.inl ⟨by rfl, fun w hSw => by go_simp⟩) hSK1 ?_
    simp only [Act.put, List.setIfInBounds_toArray]
    dsimp only [List.set_cons_zero, List.set_cons_succ]
    refine wpZ_take (i := 4) (v := .bool true) 9 rfl rfl (by kernel_rfl) (by kernel_rfl) (by kernel_rfl) (Or.inr (by decide)) (fun _ _ _ h => h) (Or.inl ⟨by rfl, fun w hSw => by go_simp⟩) hSK1 ?_
    simp only [Act.put, List.setIfInBounds_toArray]
    dsimp only [List.set_cons_zero, List.set_cons_succ]
    refine wpZ_take (i := 5) (v := undef) 10 rfl rfl (by kernel_rfl) (by kernel_rfl) (by kernel_rfl) (Or.inr (by decide)) (fun _ _ _ h => h) (Or.inr ⟨by rfl, rfl⟩) hSK1 ?_
    simp only [Act.put, List.setIfInBounds_toArray]
    dsimp only [List.set_cons_zero, List.set_cons_succ]
    refine wpZ_take (i := 6) (v := undef) 11 rfl rfl (by kernel_rfl) (by kernel_rfl) (by kernel_rfl) (Or.inr (by decide)) (fun _ _ _ h => h) (Or.inr ⟨by rfl, rfl⟩) hSK1 ?_
    simp only [Act.put, List.setIfInBounds_toArray]
    dsimp only [List.set_cons_zero, List.set_cons_succ]
    refine wpZ_take (i := 7) (v := undef) 12 rfl rfl (by kernel_rfl) (by kernel_rfl) (by kernel_rfl) (Or.inr (by decide)) (fun _ _ _ h => h) (Or.inr ⟨by rfl, rfl⟩) hSK1 ?_
    simp only [Act.put, List.setIfInBounds_toArray]
    dsimp only [List.set_cons_zero, List.set_cons_succ]
    refine wpZ_take (i := 8) (v := .bool true) 13 rfl rfl (by kernel_rfl) (by kernel_rfl) (by kernel_rfl) (Or.inr (by decide)) (fun _ _ _ h => h) (Or.inl ⟨by rfl, fun w hSw => by go_simp⟩) hSK1 ?_
    simp only [Act.put, List.setIfInBounds_toArray]
    dsimp only [List.set_cons_zero, List.set_cons_succ]
    refine wpZ_done (by kernel_rfl) ?_ _
    go_wp2_with fail
    go_meet
    exact ⟨rfl, hSK1⟩
  obtain ⟨rfl, hbx⟩ := hcut
  have br1 := br.belowAll hbx
  have hbw1 := bStep hbw0 hbx
  clear bp br hbw0 hbx
  go_wp2_with fail
  refine (HIN.out _).mono ?_
  rintro e w3 ⟨rfl, hb3⟩
  obtain ⟨r0, r1, r2, r3, r4, r5, r6, r7, r8, rf⟩ := (br1.belowAll hb3).cells
  go_wp2
  refine bodyPost_ret (v := .agg #[.int .u64 ((limb 0 (0) : Nat) : Int), .int .u64 ((limb 1 (0) : Nat) : Int), .int .u64 ((limb 2 (0) : Nat) : Int), .int .u64 ((limb 3 (0) : Nat) : Int), .int .u64 ((limb 0 (0) : Nat) : Int), .int .u64 ((limb 1 (0) : Nat) : Int), .int .u64 ((limb 2 (0) : Nat) : Int), .int .u64 ((limb 3 (0) : Nat) : Int), .bool true]) (by simp [results, Tryz.results12, go_sem, r0, r1, r2, r3, r4, r5, r6, r7, r8]) rfl ⟨rfl, ?_⟩
  exact bSet9 (bStep hbw1 hb3) hrw _ _ _ _ _ _ _ _ _
set_option maxHeartbeats 4000000 in
set_option maxRecDepth 20000 in
theorem rneg_out (c : Int) (hc : c < 0 ∨ 4 ≤ c) (x y : Nat) (i : Bool) (w : World) : Calls Tryz.prog 13 #[.int .i64 c, .agg #[.int .u64 ((limb 0 (x) : Nat) : Int), .int .u64 ((limb 1 (x) : Nat) : Int), .int .u64 ((limb 2 (x) : Nat) : Int), .int .u64 ((limb 3 (x) : Nat) : Int), .int .u64 ((limb 0 (y) : Nat) : Int), .int .u64 ((limb 1 (y) : Nat) : Int), .int .u64 ((limb 2 (y) : Nat) : Int), .int .u64 ((limb 3 (y) : Nat) : Int), .bool i]] w fun e w' => e = .returned (.agg #[.int .u64 ((limb 0 (0) : Nat) : Int), .int .u64 ((limb 1 (0) : Nat) : Int), .int .u64 ((limb 2 (0) : Nat) : Int), .int .u64 ((limb 3 (0) : Nat) : Int), .int .u64 ((limb 0 (0) : Nat) : Int), .int .u64 ((limb 1 (0) : Nat) : Int), .int .u64 ((limb 2 (0) : Nat) : Int), .int .u64 ((limb 3 (0) : Nat) : Int), .bool true]) ∧ Below w.heap.size w w' := by
  have HON : Hid (∀ w, _) := fun w => ron_out c hc x y i w
  have HIN : Hid (∀ w, _) := rInfinity_any
  clear hc
  go_enter Tryz.func13, Tryz.ntmps13
  go_upto_region 1 with fail
  obtain ⟨w0, hw0⟩ : ∃ w0 : World, w0 = (w.alloc (.cells #[.int .u64 ((limb 0 x : Nat) : Int), .int .u64 ((limb 1 x : Nat) : Int), .int .u64 ((limb 2 x : Nat) : Int), .int .u64 ((limb 3 x : Nat) : Int), .int .u64 ((limb 0 y : Nat) : Int), .int .u64 ((limb 1 y : Nat) : Int), .int .u64 ((limb 2 y : Nat) : Int), .int .u64 ((limb 3 y : Nat) : Int), .bool i] 26)).alloc (.cells #[.int .u64 0, .int .u64 0, .int .u64 0, .int .u64 0, .int .u64 0, .int .u64 0, .int .u64 0, .int .u64 0, .bool false] 26) := ⟨_, rfl⟩
  have bp : Pt w0 w.heap.size x y i := by rw [hw0]; exact (Pt.newAt _ _ _ _ _ rfl).alloc _
  have br : Pt w0 (w.heap.size + 1) 0 0 false := by rw [hw0]; exact Pt.zeroAt _ _ (by simp)
  have hbw0 : Below w.heap.size w w0 := by rw [hw0]; exact bAlloc ((Below.refl _ _).alloc (Nat.le_refl _) _) _
  have hrw : w.heap.size ≤ w.heap.size + 1 := Nat.le_succ _
  rw [← hw0]
  clear hw0
  obtain ⟨q0, q1, q2, q3, q4, q5, q6, q7, q8, qf⟩ := bp.cells
  go_wp2_with fail
  refine (HON.out _).mono ?_
  rintro e w1 ⟨rfl, hb1⟩
  clear q0 q1 q2 q3 q4 q5 q6 q7 q8 qf
  have br1 := br.belowAll hb1
  have hbw1 := bStep hbw0 hb1
  clear bp br hbw0 hb1
  go_wp2_with fail
  refine (HIN.out _).mono ?_
  rintro e w3 ⟨rfl, hb3⟩
  obtain ⟨r0, r1, r2, r3, r4, r5, r6, r7, r8, rf⟩ := (br1.belowAll hb3).cells
  go_wp2
  refine bodyPost_ret (v := .agg #[.int .u64 ((limb 0 (0) : Nat) : Int), .int .u64 ((limb 1 (0) : Nat) : Int), .int .u64 ((limb 2 (0) : Nat) : Int), .int .u64 ((limb 3 (0) : Nat) : Int), .int .u64 ((limb 0 (0) : Nat) : Int), .int .u64 ((limb 1 (0) : Nat) : Int), .int .u64 ((limb 2 (0) : Nat) : Int), .int .u64 ((limb 3 (0) : Nat) : Int), .bool true]) (by simp [results, Tryz.results13, go_sem, r0, r1, r2, r3, r4, r5, r6, r7, r8]) rfl ⟨rfl, ?_⟩
  exact bSet9 (bStep hbw1 hb3) hrw _ _ _ _ _ _ _ _ _
set_option maxHeartbeats 4000000 in
set_option maxRecDepth 20000 in
theorem add_out (c : Int) (hc : c < 0 ∨ 4 ≤ c) (x y u v : Nat) (i j : Bool) (w : World) : Calls Tryz.prog 14 #[.int .i64 c, .agg #[.int .u64 ((limb 0 (x) : Nat) : Int), .int .u64 ((limb 1 (x) : Nat) : Int), .int .u64 ((limb 2 (x) : Nat) : Int), .int .u64 ((limb 3 (x) : Nat) : Int), .int .u64 ((limb 0 (y) : Nat) : Int), .int .u64 ((limb 1 (y) : Nat) : Int), .int .u64 ((limb 2 (y) : Nat) : Int), .int .u64 ((limb 3 (y) : Nat) : Int), .bool i], .agg #[.int .u64 ((limb 0 (u) : Nat) : Int), .int .u64 ((limb 1 (u) : Nat) : Int), .int .u64 ((limb 2 (u) : Nat) : Int), .int .u64 ((limb 3 (u) : Nat) : Int), .int .u64 ((limb 0 (v) : Nat) : Int), .int .u64 ((limb 1 (v) : Nat) : Int), .int .u64 ((limb 2 (v) : Nat) : Int), .int .u64 ((limb 3 (v) : Nat) : Int), .bool j]] w fun e w' => e = .returned (.agg #[.int .u64 ((limb 0 (0) : Nat) : Int), .int .u64 ((limb 1 (0) : Nat) : Int), .int .u64 ((limb 2 (0) : Nat) : Int), .int .u64 ((limb 3 (0) : Nat) : Int), .int .u64 ((limb 0 (0) : Nat) : Int), .int .u64 ((limb 1 (0) : Nat) : Int), .int .u64 ((limb 2 (0) : Nat) : Int), .int .u64 ((limb 3 (0) : Nat) : Int), .bool true]) ∧ Below w.heap.size w w' := by
  have HON : Hid (∀ w, _) := fun w => on_out c hc x y i w
  have HIN : Hid (∀ w, _) := infinity_any
  clear hc
  go_enter Tryz.func14, Tryz.ntmps14
  go_upto_region 1 with fail
  obtain ⟨w0, hw0⟩ : ∃ w0 : World, w0 = ((w.alloc (.cells #[.int .u64 ((limb 0 x : Nat) : Int), .int .u64 ((limb 1 x : Nat) : Int), .int .u64 ((limb 2 x : Nat) : Int), .int .u64 ((limb 3 x : Nat) : Int), .int .u64 ((limb 0 y : Nat) : Int), .int .u64 ((limb 1 y : Nat) : Int), .int .u64 ((limb 2 y : Nat) : Int), .int .u64 ((limb 3 y : Nat) : Int), .bool i] 26)).alloc (.cells #[.int .u64 ((limb 0 u : Nat) : Int), .int .u64 ((limb 1 u : Nat) : Int), .int .u64 ((limb 2 u : Nat) : Int), .int .u64 ((limb 3 u : Nat) : Int), .int .u64 ((limb 0 v : Nat) : Int), .int .u64 ((limb 1 v : Nat) : Int), .int .u64 ((limb 2 v : Nat) : Int), .int .u64 ((limb 3 v : Nat) : Int), .bool j] 26)).alloc (.cells #[.int .u64 0, .int .u64 0, .int .u64 0, .int .u64 0, .int .u64 0, .int .u64 0, .int .u64 0, .int .u64 0, .bool false] 26) := ⟨_, rfl⟩
  have bp : Pt w0 w.heap.size x y i := by rw [hw0]; exact ((Pt.newAt _ _ _ _ _ rfl).alloc _).alloc _
  have br : Pt w0 (w.heap.size + 1 + 1) 0 0 false := by rw [hw0]; exact Pt.zeroAt _ _ (by simp)
  have hbw0 : Below w.heap.size w w0 := by rw [hw0]; exact bAlloc (bAlloc ((Below.refl _ _).alloc (Nat.le_refl _) _) _) _
  have hrw : w.heap.size ≤ w.heap.size + 1 + 1 := by omega
  rw [← hw0]
  clear hw0
  obtain ⟨q0, q1, q2, q3, q4, q5, q6, q7, q8, qf⟩ := bp.cells
  go_wp2_with fail
  refine (HON.out _).mono ?_
  rintro e w1 ⟨rfl, hb1⟩
  clear q0 q1 q2 q3 q4 q5 q6 q7 q8 qf
  have br1 := br.belowAll hb1
  have hbw1 := bStep hbw0 hb1
  clear bp br hbw0 hb1
  go_wp2_with fail
  refine (HIN.out _).mono ?_
  rintro e w3 ⟨rfl, hb3⟩
  obtain ⟨r0, r1, r2, r3, r4, r5, r6, r7, r8, rf⟩ := (br1.belowAll hb3).cells
  go_wp2
  refine bodyPost_ret (v := .agg #[.int .u64 ((limb 0 (0) : Nat) : Int), .int .u64 ((limb 1 (0) : Nat) : Int), .int .u64 ((limb 2 (0) : Nat) : Int), .int .u64 ((limb 3 (0) : Nat) : Int), .int .u64 ((limb 0 (0) : Nat) : Int), .int .u64 ((limb 1 (0) : Nat) : Int), .int .u64 ((limb 2 (0) : Nat) : Int), .int .u64 ((limb 3 (0) : Nat) : Int), .bool true]) (by simp [results, Tryz.results14, go_sem, r0, r1, r2, r3, r4, r5, r6, r7, r8]) rfl ⟨rfl, ?_⟩
  exact bSet9 (bStep hbw1 hb3) hrw _ _ _ _ _ _ _ _ _
set_option maxHeartbeats 4000000 in
set_option maxRecDepth 20000 in
theorem radd_out (c : Int) (hc : c < 0 ∨ 4 ≤ c) (x y u v : Nat) (i j : Bool) (w : World) : Calls Tryz.prog 15 #[.int .i64 c, .agg #[.int .u64 ((limb 0 (x) : Nat) : Int), .int .u64 ((limb 1 (x) : Nat) : Int), .int .u64 ((limb 2 (x) : Nat) : Int), .int .u64 ((limb 3 (x) : Nat) : Int), .int .u64 ((limb 0 (y) : Nat) : Int), .int .u64 ((limb 1 (y) : Nat) : Int), .int .u64 ((limb 2 (y) : Nat) : Int), .int .u64 ((limb 3 (y) : Nat) : Int), .bool i], .agg #[.int .u64 ((limb 0 (u) : Nat) : Int), .int .u64 ((limb 1 (u) : Nat) : Int), .int .u64 ((limb 2 (u) : Nat) : Int), .int .u64 ((limb 3 (u) : Nat) : Int), .int .u64 ((limb 0 (v) : Nat) : Int), .int .u64 ((limb 1 (v) : Nat) : Int), .int .u64 ((limb 2 (v) : Nat) : Int), .int .u64 ((limb 3 (v) : Nat) : Int), .bool j]] w fun e w' => e = .returned (.agg #[.int .u64 ((limb 0 (0) : Nat) : Int), .int .u64 ((limb 1 (0) : Nat) : Int), .int .u64 ((limb 2 (0) : Nat) : Int), .int .u64 ((limb 3 (0) : Nat) : Int), .int .u64 ((limb 0 (0) : Nat) : Int), .int .u64 ((limb 1 (0) : Nat) : Int), .int .u64 ((limb 2 (0) : Nat) : Int), .int .u64 ((limb 3 (0) : Nat) : Int), .bool true]) ∧ Below w.heap.size w w' := by
  have HON : Hid (∀ w, _) := fun w => ron_out c hc x y i w
  have HIN : Hid (∀ w, _) := rInfinity_any
  clear hc
  go_enter Tryz.func15, Tryz.ntmps15
  go_upto_region 1 with fail
  obtain ⟨w0, hw0⟩ : ∃ w0 : World, w0 = ((w.alloc (.cells #[.int .u64 ((limb 0 x : Nat) : Int), .int .u64 ((limb 1 x : Nat) : Int), .int .u64 ((limb 2 x : Nat) : Int), .int .u64 ((limb 3 x : Nat) : Int), .int .u64 ((limb 0 y : Nat) : Int), .int .u64 ((limb 1 y : Nat) : Int), .int .u64 ((limb 2 y : Nat) : Int), .int .u64 ((limb 3 y : Nat) : Int), .bool i] 26)).alloc (.cells #[.int .u64 ((limb 0 u : Nat) : Int), .int .u64 ((limb 1 u : Nat) : Int), .int .u64 ((limb 2 u : Nat) : Int), .int .u64 ((limb 3 u : Nat) : Int), .int .u64 ((limb 0 v : Nat) : Int), .int .u64 ((limb 1 v : Nat) : Int), .int .u64 ((limb 2 v : Nat) : Int), .int .u64 ((limb 3 v : Nat) : Int), .bool j] 26)).alloc (.cells #[.int .u64 0, .int .u64 0, .int .u64 0, .int .u64 0, .int .u64 0, .int .u64 0, .int .u64 0, .int .u64 0, .bool false] 26) := ⟨_, rfl⟩
  have bp : Pt w0 w.heap.size x y i := by rw [hw0]; exact ((Pt.newAt _ _ _ _ _ rfl).alloc _).alloc _
  have br : Pt w0 (w.heap.size + 1 + 1) 0 0 false := by rw [hw0]; exact Pt.zeroAt _ _ (by simp)
  have hbw0 : Below w.heap.size w w0 := by rw [hw0]; exact bAlloc (bAlloc ((Below.refl _ _).alloc (Nat.le_refl _) _) _) _
  have hrw : w.heap.size ≤ w.heap.size + 1 + 1 := by omega
  rw [← hw0]
  clear hw0
  obtain ⟨q0, q1, q2, q3, q4, q5, q6, q7, q8, qf⟩ := bp.cells
  go_wp2_with fail
  refine (HON.out _).mono ?_
  rintro e w1 ⟨rfl, hb1⟩
  clear q0 q1 q2 q3 q4 q5 q6 q7 q8 qf
  have br1 := br.belowAll hb1
  have hbw1 := bStep hbw0 hb1
  clear bp br hbw0 hb1
  go_wp2_with fail
  refine (HIN.out _).mono ?_
  rintro e w3 ⟨rfl, hb3⟩
  obtain ⟨r0, r1, r2, r3, r4, r5, r6, r7, r8, rf⟩ := (br1.belowAll hb3).cells
  go_wp2
  refine bodyPost_ret (v := .agg #[.int .u64 ((limb 0 (0) : Nat) : Int), .int .u64 ((limb 1 (0) : Nat) : Int), .int .u64 ((limb 2 (0) : Nat) : Int), .int .u64 ((limb 3 (0) : Nat) : Int), .int .u64 ((limb 0 (0) : Nat) : Int), .int .u64 ((limb 1 (0) : Nat) : Int), .int .u64 ((limb 2 (0) : Nat) : Int), .int .u64 ((limb 3 (0) : Nat) : Int), .bool true]) (by simp [results, Tryz.results15, go_sem, r0, r1, r2, r3, r4, r5, r6, r7, r8]) rfl ⟨rfl, ?_⟩
  exact bSet9 (bStep hbw1 hb3) hrw _ _ _ _ _ _ _ _ _
/-- CurveSums of anything. -/
theorem csums_walk (c : Int) (x y u v : Nat) (i j : Bool) (hx : x < 115792089237316195423570985008687907853269984665640564039457584007913129639936) (hy : y < 115792089237316195423570985008687907853269984665640564039457584007913129639936) (hu : u < 115792089237316195423570985008687907853269984665640564039457584007913129639936) (hv : v < 115792089237316195423570985008687907853269984665640564039457584007913129639936) (w : World) (hg : GlobC w) :
    Calls Tryz.prog 3 #[.int .i64 c, .agg #[.int .u64 ((limb 0 (x) : Nat) : Int), .int .u64 ((limb 1 (x) : Nat) : Int), .int .u64 ((limb 2 (x) : Nat) : Int), .int .u64 ((limb 3 (x) : Nat) : Int), .int .u64 ((limb 0 (y) : Nat) : Int), .int .u64 ((limb 1 (y) : Nat) : Int), .int .u64 ((limb 2 (y) : Nat) : Int), .int .u64 ((limb 3 (y) : Nat) : Int), .bool i], .agg #[.int .u64 ((limb 0 (u) : Nat) : Int), .int .u64 ((limb 1 (u) : Nat) : Int), .int .u64 ((limb 2 (u) : Nat) : Int), .int .u64 ((limb 3 (u) : Nat) : Int), .int .u64 ((limb 0 (v) : Nat) : Int), .int .u64 ((limb 1 (v) : Nat) : Int), .int .u64 ((limb 2 (v) : Nat) : Int), .int .u64 ((limb 3 (v) : Nat) : Int), .bool j]] w fun e w' => e = .returned (.bool true) ∧ Below w.heap.size w w' := by
  by_cases hc : c < 0 ∨ 4 ≤ c
  · exact csums_gen c x y u v 0 0 0 0 i j false true true (by decide) (by decide) (by decide) (by decide) (fun w _ => on_out c hc x y i w) (fun w _ => ron_out c hc x y i w) (fun w _ => neg_out c hc x y i w) (fun w _ => rneg_out c hc x y i w) (fun w _ => add_out c hc x y u v i j w) (fun w _ => radd_out c hc x y u v i j w) w hg
  · obtain ⟨n, rfl⟩ : ∃ n : Nat, c = (n : Int) := ⟨c.toNat, by omega⟩
    exact csums_in n x y u v i j (by omega) hx hy hu hv w hg

end Go.Proofs.YtaeembdabnomaaaGreatDoor

/- The package's variables: what the condition on them gives the walks. -/
namespace Go.Proofs.YtaeembdabnomaaaGreatDoor
open Go.ChangeShapes Go.WideShapes Go.ChangeAt Go.WideMaps Go.WideElems Go.RowKit

theorem gPrimes : Tryz.prog.globalNamed "sigil/field.primes" = some 1 := by kernel_rfl
theorem gOne : Tryz.prog.globalNamed "sigil/field.one" = some 2 := by kernel_rfl
theorem tPrimes : (Tryz.prog.globals[1]?).map (·.type) = some 97 := by kernel_rfl
theorem tOne : (Tryz.prog.globals[2]?).map (·.type) = some 63 := by kernel_rfl
theorem gCons : Tryz.prog.globalNamed "sigil/curve.constants" = some 0 := by kernel_rfl
theorem tCons : (Tryz.prog.globals[0]?).map (·.type) = some 23 := by kernel_rfl
theorem cU : Tryz.prog.cellsOf 22 = 1 := by kernel_rfl
theorem cI : Tryz.prog.cellsOf 3 = 1 := by kernel_rfl
theorem cT : Tryz.prog.cellsOf 63 = 4 := by kernel_rfl
theorem cTP : Tryz.prog.cellsOf 96 = 5 := by kernel_rfl
theorem uT : Tryz.prog.underlying 63 = some (.struct (Tryz.prog.fieldsOf 63)) := by kernel_rfl
theorem uTP : Tryz.prog.underlying 96 = some (.struct (Tryz.prog.fieldsOf 96)) := by kernel_rfl
theorem fieldsP : ∃ n0 n1 : Field, (Tryz.prog.fieldsOf 96).toList = [n0, n1] ∧ n0.type = 63 ∧ n1.type = 3 ∧ n0.offset = 0 ∧ n1.offset = 4 := by
  have h : (Tryz.prog.fieldsOf 96).toList.map (fun f => (f.type, f.offset)) = [(63, 0), (3, 4)] := by kernel_rfl
  have hlen : (Tryz.prog.fieldsOf 96).toList.length = 2 := by
    have := congrArg List.length h
    simpa using this
  match hl : (Tryz.prog.fieldsOf 96).toList, hlen with
  | [n0, n1], _ =>
    rw [hl] at h
    simp only [List.map_cons, List.map_nil, List.cons.injEq, Prod.mk.injEq, and_true] at h
    exact ⟨n0, n1, rfl, h.1.1, h.2.1, h.1.2, h.2.2⟩

section
variable {H : Type} {enc : TypeId × Value → H} {W : World} {base : Nat} {sp : Nat → Bool} {held : Bool} {fuel : Nat} {cs : List Value} {x : DataW H × List MemPlace}
theorem oneWord {a : Int} {y : DataW H × List MemPlace} (h : DataW.trod enc Tryz.prog W base sp held fuel 22 cs = some y) (hy : y.1 = .lit (.int .u64 a)) : cs = [.int .u64 a] := by
  obtain ⟨n, e, rfl, _⟩ := DataW.trod_int Tryz.underlying22 h
  simp only [DataW.lit.injEq, Lit.int.injEq, true_and] at hy
  rw [e, hy]
theorem oneInt {a : Int} {y : DataW H × List MemPlace} (h : DataW.trod enc Tryz.prog W base sp held fuel 3 cs = some y) (hy : y.1 = .lit (.int .i64 a)) : cs = [.int .i64 a] := by
  obtain ⟨n, e, rfl, _⟩ := DataW.trod_int Tryz.underlying3 h
  simp only [DataW.lit.injEq, Lit.int.injEq, true_and] at hy
  rw [e, hy]
theorem openNum {a0 a1 a2 a3 : Int} (h : DataW.trod enc Tryz.prog W base sp held fuel 63 cs = some x) (hx : x.1 = .agg [.lit (.int .u64 a0), .lit (.int .u64 a1), .lit (.int .u64 a2), .lit (.int .u64 a3)]) :
    cs = [.int .u64 a0, .int .u64 a1, .int .u64 a2, .int .u64 a3] := by
  obtain ⟨n0, n1, n2, n3, hl, _, _, _, _, t0, t1, t2, t3, o0, o1, o2, o3⟩ := fieldsF
  obtain ⟨xs, m, rfl, rfl, hlen, _, hf⟩ := DataW.trod_struct uT h
  rw [cT] at hlen
  obtain ⟨c0, c1, c2, c3, rfl⟩ := list4s cs hlen
  have hget : ∀ i (f : Field), (Tryz.prog.fieldsOf 63).toList[i]? = some f → DataW.trod enc Tryz.prog W base sp held m f.type (([c0, c1, c2, c3].drop f.offset).take (Tryz.prog.cellsOf f.type)) = xs[i]? := fun i f hi => hf i f (by simpa using hi)
  rw [hl] at hget
  have g0 := hget 0 n0 rfl; have g1 := hget 1 n1 rfl; have g2 := hget 2 n2 rfl; have g3 := hget 3 n3 rfl
  rw [t0, o0, cU] at g0
  rw [t1, o1, cU] at g1
  rw [t2, o2, cU] at g2
  rw [t3, o3, cU] at g3
  simp only [DataW.agg.injEq] at hx
  have hxl : xs.length = 4 := by have := congrArg List.length hx; simpa using this
  obtain ⟨y0, y1, y2, y3, rfl⟩ := list4s xs hxl
  simp only [List.map_cons, List.map_nil, List.cons.injEq, and_true] at hx
  have e0 := oneWord g0 hx.1; have e1 := oneWord g1 hx.2.1; have e2 := oneWord g2 hx.2.2.1; have e3 := oneWord g3 hx.2.2.2
  simp at e0 e1 e2 e3
  rw [e0, e1, e2, e3]
theorem get1 (i : Nat) {v : Value} (h : (cs.drop i).take 1 = [v]) : cs[i]? = some v := by
  have e := congrArg (fun l => l[0]?) h
  simpa [List.getElem?_drop] using e
theorem openWords (L : List Int) (hL : L.length = 4) (h : DataW.trod enc Tryz.prog W base sp held fuel 23 cs = some x) (hx : x.1 = .agg (L.map (fun z => .lit (.int .u64 z)))) :
    ∀ i, i < 4 → cs[i]? = (L[i]?).map (fun z => Value.int .u64 z) := by
  obtain ⟨xs, m, rfl, rfl, hlen, hxl, hel⟩ := DataW.trod_array Tryz.underlying23 h
  intro i hi
  have g := hel i hi
  rw [cU, Nat.mul_one] at g
  simp only [DataW.agg.injEq] at hx
  have k := congrArg (fun l => l[i]?) hx
  simp only [List.getElem?_map] at k
  obtain ⟨y, hy⟩ : ∃ y, xs[i]? = some y := ⟨_, List.getElem?_eq_getElem (by omega)⟩
  obtain ⟨z, hz⟩ : ∃ z, L[i]? = some z := ⟨_, List.getElem?_eq_getElem (by omega)⟩
  rw [hy] at g k
  rw [hz] at k ⊢
  simp only [Option.map_some, Option.some.injEq] at k
  obtain ⟨n, e, rfl, _⟩ := DataW.trod_int Tryz.underlying22 g
  simp only [DataW.lit.injEq, Lit.int.injEq, true_and] at k
  rw [Option.map_some, get1 i e, k]
theorem list5s {α : Type} (l : List α) (h : l.length = 5) : ∃ a b c d e, l = [a, b, c, d, e] := by
  match l, h with
  | [a, b, c, d, e], _ => exact ⟨a, b, c, d, e, rfl⟩
theorem list2s {α : Type} (l : List α) (h : l.length = 2) : ∃ a b, l = [a, b] := by
  match l, h with
  | [a, b], _ => exact ⟨a, b, rfl⟩
theorem openPrime {a0 a1 a2 a3 k : Int} (h : DataW.trod enc Tryz.prog W base sp held fuel 96 cs = some x) (hx : x.1 = .agg [.agg [.lit (.int .u64 a0), .lit (.int .u64 a1), .lit (.int .u64 a2), .lit (.int .u64 a3)], .lit (.int .i64 k)]) :
    cs = [.int .u64 a0, .int .u64 a1, .int .u64 a2, .int .u64 a3, .int .i64 k] := by
  obtain ⟨n0, n1, hl, t0, t1, o0, o1⟩ := fieldsP
  obtain ⟨xs, m, rfl, rfl, hlen, _, hf⟩ := DataW.trod_struct uTP h
  rw [cTP] at hlen
  obtain ⟨c0, c1, c2, c3, c4, rfl⟩ := list5s cs hlen
  have hget : ∀ i (f : Field), (Tryz.prog.fieldsOf 96).toList[i]? = some f → DataW.trod enc Tryz.prog W base sp held m f.type (([c0, c1, c2, c3, c4].drop f.offset).take (Tryz.prog.cellsOf f.type)) = xs[i]? := fun i f hi => hf i f (by simpa using hi)
  rw [hl] at hget
  have g0 := hget 0 n0 rfl; have g1 := hget 1 n1 rfl
  rw [t0, o0, cT] at g0
  rw [t1, o1, cI] at g1
  simp only [DataW.agg.injEq] at hx
  have hxl : xs.length = 2 := by have := congrArg List.length hx; simpa using this
  obtain ⟨y0, y1, rfl⟩ := list2s xs hxl
  simp only [List.map_cons, List.map_nil, List.cons.injEq, and_true] at hx
  have e0 := openNum g0 hx.1; have e1 := oneInt g1 hx.2
  simp at e0 e1
  rw [e0.1, e0.2.1, e0.2.2.1, e0.2.2.2, e1]
end

theorem getDT (l : List Value) (a j : Nat) (hj : j < 5) {r : List Value} (h : (l.drop a).take 5 = r) : l[a + j]? = r[j]? := by
  rw [← h]; simp [List.getElem?_drop, hj]

def laidF : List (String × DataW Unit) := [("sigil/field.primes", Rows.laid_sigil_field_primes), ("sigil/field.one", Rows.laid_sigil_field_one), ("sigil/curve.constants", Rows.laid_sigil_curve_constants)]

theorem limb_lits : limb 0 (modN 0) = 16513537 ∧ limb 1 (modN 0) = 0 ∧ limb 2 (modN 0) = 0 ∧ limb 3 (modN 0) = 0 ∧ limb 0 (modN 1) = 16521217 ∧ limb 1 (modN 1) = 0 ∧ limb 2 (modN 1) = 0 ∧ limb 3 (modN 1) = 0 ∧ limb 0 (modN 2) = 11037532056220336129 ∧ limb 1 (modN 2) = 2469829653914515739 ∧ limb 2 (modN 2) = 0 ∧ limb 3 (modN 2) = 4611686018427387904 ∧ limb 0 (modN 3) = 10108024940646105089 ∧ limb 1 (modN 3) = 2469829653919213789 ∧ limb 2 (modN 3) = 0 ∧ limb 3 (modN 3) = 4611686018427387904 := by decide

set_option maxRecDepth 100000 in
/-- What the condition on the variables gives. -/
theorem globC_of_laid {W : World} (h : laidMetH Tryz.prog laidF W) : GlobC W := by
  rw [MakeChecks.laidMetH_plain _ _ _ (by kernel_rfl)] at h
  obtain ⟨ps, ⟨g0, t0, cs0, f0, p0, q0, hg0, ht0, hv0, hd0, ⟨g1, t1, cs1, f1, p1, q1, hg1, ht1, hv1, hd1, ⟨g2, t2, cs2, f2, p2, q2, hg2, ht2, hv2, hd2, _, _⟩, _⟩, _⟩, _, _⟩ := h
  obtain rfl := Option.some.inj (gPrimes.symm.trans hg0)
  obtain rfl := Option.some.inj (gOne.symm.trans hg1)
  obtain rfl := Option.some.inj (tPrimes.symm.trans ht0)
  obtain rfl := Option.some.inj (tOne.symm.trans ht1)
  obtain rfl := Option.some.inj (gCons.symm.trans hg2)
  obtain rfl := Option.some.inj (tCons.symm.trans ht2)
  have k1 := openNum hd1 rfl
  have k2 := openWords [23, 21, 5, 5] (by decide) hd2 (by rfl)
  have cell2 : ∀ k, W.cell? ⟨0, k, none⟩ = cs2.toList[k]? := fun k => by rw [World.var?_cell hg2 hv2 k]; simp
  obtain ⟨xs, m, rfl, hx, hlen, hxl, hel⟩ := DataW.trod_array Tryz.underlying97 hd0
  obtain ⟨x0, x1, x2, x3, rfl⟩ := list4s xs hxl
  have hx1 := congrArg Prod.fst hx
  simp only [Rows.laid_sigil_field_primes, DataW.agg.injEq, List.map_cons, List.map_nil, List.cons.injEq, and_true] at hx1
  obtain ⟨y0, y1, y2, y3⟩ := hx1
  have e0 := openPrime (hel 0 (by decide)) y0.symm
  have e1 := openPrime (hel 1 (by decide)) y1.symm
  have e2 := openPrime (hel 2 (by decide)) y2.symm
  have e3 := openPrime (hel 3 (by decide)) y3.symm
  rw [cTP] at e0 e1 e2 e3
  have cell0 : ∀ k, W.cell? ⟨1, k, none⟩ = cs0.toList[k]? := fun k => by rw [World.var?_cell hg0 hv0 k]; simp
  have cell1 : ∀ k, W.cell? ⟨2, k, none⟩ = cs1.toList[k]? := fun k => by rw [World.var?_cell hg1 hv1 k]; simp
  rw [k1] at cell1
  have d0 : ∀ j, j < 5 → W.cell? ⟨1, 5 * 0 + j, none⟩ = _ := fun j hj => (cell0 _).trans (getDT cs0.toList (0 * 5) j hj e0)
  have d1 : ∀ j, j < 5 → W.cell? ⟨1, 5 * 1 + j, none⟩ = _ := fun j hj => (cell0 _).trans (getDT cs0.toList (1 * 5) j hj e1)
  have d2 : ∀ j, j < 5 → W.cell? ⟨1, 5 * 2 + j, none⟩ = _ := fun j hj => (cell0 _).trans (getDT cs0.toList (2 * 5) j hj e2)
  have d3 : ∀ j, j < 5 → W.cell? ⟨1, 5 * 3 + j, none⟩ = _ := fun j hj => (cell0 _).trans (getDT cs0.toList (3 * 5) j hj e3)
  obtain ⟨l00, l01, l02, l03, l10, l11, l12, l13, l20, l21, l22, l23, l30, l31, l32, l33⟩ := limb_lits
  have hw : 2 < W.heap.size := World.block_lt_of_cell? W ⟨2, 0, none⟩ (cell1 0)
  refine ⟨⟨by omega, ?_, ?_⟩, fun i hi => ?_⟩
  · intro s hs
    have h4 : s = 0 ∨ s = 1 ∨ s = 2 ∨ s = 3 := by omega
    rcases h4 with rfl | rfl | rfl | rfl
    · refine ⟨fun j hj => ?_, d0 4 (by decide)⟩
      have hj4 : j = 0 ∨ j = 1 ∨ j = 2 ∨ j = 3 := by omega
      rcases hj4 with rfl | rfl | rfl | rfl
      · rw [l00]; exact d0 0 (by decide)
      · rw [l01]; exact d0 1 (by decide)
      · rw [l02]; exact d0 2 (by decide)
      · rw [l03]; exact d0 3 (by decide)
    · refine ⟨fun j hj => ?_, d1 4 (by decide)⟩
      have hj4 : j = 0 ∨ j = 1 ∨ j = 2 ∨ j = 3 := by omega
      rcases hj4 with rfl | rfl | rfl | rfl
      · rw [l10]; exact d1 0 (by decide)
      · rw [l11]; exact d1 1 (by decide)
      · rw [l12]; exact d1 2 (by decide)
      · rw [l13]; exact d1 3 (by decide)
    · refine ⟨fun j hj => ?_, d2 4 (by decide)⟩
      have hj4 : j = 0 ∨ j = 1 ∨ j = 2 ∨ j = 3 := by omega
      rcases hj4 with rfl | rfl | rfl | rfl
      · rw [l20]; exact d2 0 (by decide)
      · rw [l21]; exact d2 1 (by decide)
      · rw [l22]; exact d2 2 (by decide)
      · rw [l23]; exact d2 3 (by decide)
    · refine ⟨fun j hj => ?_, d3 4 (by decide)⟩
      have hj4 : j = 0 ∨ j = 1 ∨ j = 2 ∨ j = 3 := by omega
      rcases hj4 with rfl | rfl | rfl | rfl
      · rw [l30]; exact d3 0 (by decide)
      · rw [l31]; exact d3 1 (by decide)
      · rw [l32]; exact d3 2 (by decide)
      · rw [l33]; exact d3 3 (by decide)
  · intro i hi
    have hi4 : i = 0 ∨ i = 1 ∨ i = 2 ∨ i = 3 := by omega
    rcases hi4 with rfl | rfl | rfl | rfl
    · rw [limb_one.1]; exact cell1 0
    · rw [limb_one.2.1]; exact cell1 1
    · rw [limb_one.2.2.1]; exact cell1 2
    · rw [limb_one.2.2.2]; exact cell1 3
  · rw [cell2 i, k2 i hi]
    have hi4 : i = 0 ∨ i = 1 ∨ i = 2 ∨ i = 3 := by omega
    rcases hi4 with rfl | rfl | rfl | rfl <;> rfl

end Go.Proofs.YtaeembdabnomaaaGreatDoor

/- Bounds of a word out of its being well formed, and back. -/
namespace Go.Proofs.YtaeembdabnomaaaGreatDoor
theorem u64_ends : IntKind.u64.min = 0 ∧ IntKind.u64.max = 18446744073709551615 := by decide
theorem bounds_u64' {x : Int} (h : (Lit.int .u64 x).wf = true) : 0 ≤ x ∧ x ≤ 18446744073709551615 := by
  simp only [Lit.wf, u64_ends.1, u64_ends.2, Bool.and_eq_true, decide_eq_true_eq] at h
  exact h
theorem wf_limb (n : Nat) (h : n < 18446744073709551616) : (Lit.int .u64 (n : Int)).wf = true := by
  simp only [Lit.wf, u64_ends.1, u64_ends.2, Bool.and_eq_true, decide_eq_true_eq]
  omega
end Go.Proofs.YtaeembdabnomaaaGreatDoor

namespace Go.Proofs.YtaeembdabnomaaaGreatDoor
open Go.ChangeShapes Go.WideShapes Go.ChangeAt Go.RowKit
open Go.WideMaps Go.WideElems
open Go.ChangeMaps (setBlock shut_map_nil open_string shut_string keptBut_setBlock frozen?_setBlock heap_setBlock_same)

theorem Tryz.own : ownKnob Tryz.prog.godebug = none := by kernel_rfl
theorem Tryz.laidOut : laidOutB Tryz.prog = true := by kernel_rfl
theorem Tryz.cellsU : Tryz.prog.cellsOf 22 = 1 := by kernel_rfl
theorem Tryz.cellsE : Tryz.prog.cellsOf 24 = 4 := by kernel_rfl
theorem Tryz.cellsP : Tryz.prog.cellsOf 26 = 9 := by kernel_rfl
theorem Tryz.cellsT : Tryz.prog.cellsOf 4 = 1 := by kernel_rfl
theorem Tryz.undP : Tryz.prog.underlying 26 = some (.struct (Tryz.prog.fieldsOf 26)) := by kernel_rfl
theorem list9 {α : Type} (l : List α) (h : (⟨l⟩ : Array α).size = 9) : ∃ a b c d e f g h i, l = [a, b, c, d, e, f, g, h, i] := by
  match l, h with
  | [a, b, c, d, e, f, g, h, i], _ => exact ⟨a, b, c, d, e, f, g, h, i, rfl⟩
set_option maxRecDepth 100000 in
/-- Four cells that are read as an element are the words of a number below 2^256. -/
theorem openQ {H : Type} {enc : TypeId × Value → H} {W : World} {base m : Nat} {sp : Nat → Bool} {held : Bool} {c0 c1 c2 c3 : Value} {x : DataW H × List MemPlace} (h : DataW.trod enc Tryz.prog W base sp held m 24 [c0, c1, c2, c3] = some x) :
    ∃ x : Nat, x < 115792089237316195423570985008687907853269984665640564039457584007913129639936 ∧ c0 = .int .u64 ((limb 0 x : Nat) : Int) ∧ c1 = .int .u64 ((limb 1 x : Nat) : Int) ∧ c2 = .int .u64 ((limb 2 x : Nat) : Int) ∧ c3 = .int .u64 ((limb 3 x : Nat) : Int) := by
  obtain ⟨y0, y1, y2, y3, k, _, hy0, hy1, hy2, hy3⟩ := trod_array4 Tryz.underlying24 Tryz.cellsU h
  obtain ⟨x0, e0, _, w0⟩ := DataW.trod_int Tryz.underlying22 hy0
  obtain ⟨x1, e1, _, w1⟩ := DataW.trod_int Tryz.underlying22 hy1
  obtain ⟨x2, e2, _, w2⟩ := DataW.trod_int Tryz.underlying22 hy2
  obtain ⟨x3, e3, _, w3⟩ := DataW.trod_int Tryz.underlying22 hy3
  simp at e0 e1 e2 e3
  subst e0 e1 e2 e3
  have b0 := bounds_u64' w0; have b1 := bounds_u64' w1; have b2 := bounds_u64' w2; have b3 := bounds_u64' w3
  obtain ⟨n0, rfl⟩ := Int.eq_ofNat_of_zero_le b0.1
  obtain ⟨n1, rfl⟩ := Int.eq_ofNat_of_zero_le b1.1
  obtain ⟨n2, rfl⟩ := Int.eq_ofNat_of_zero_le b2.1
  obtain ⟨n3, rfl⟩ := Int.eq_ofNat_of_zero_le b3.1
  have g := limbs_of n0 n1 n2 n3 (by omega) (by omega) (by omega) (by omega) _ rfl
  refine ⟨_, g.2.2.2.2, ?_, ?_, ?_, ?_⟩
  · rw [← g.1]
  · rw [← g.2.1]
  · rw [← g.2.2.1]
  · rw [← g.2.2.2.1]
theorem openT {H : Type} {enc : TypeId × Value → H} {W : World} {base m : Nat} {sp : Nat → Bool} {held : Bool} {c : Value} {x : DataW H × List MemPlace} (h : DataW.trod enc Tryz.prog W base sp held m 4 [c] = some x) : ∃ b : Bool, c = .bool b := by
  obtain ⟨b, e, _⟩ := DataW.trod_bool Tryz.underlying4 h
  exact ⟨b, by simpa using e⟩
set_option maxRecDepth 100000 in
/-- A point that is read. -/
theorem openP {H : Type} {enc : TypeId × Value → H} {W : World} {base : Nat} {v : Value} {d : DataW H} {p : List MemPlace} (hv : Value.okWide Tryz.prog W .any base 26 v) (h : DataW.Trod enc Tryz.prog W 0 (fun _ => true) true 26 v d p) :
    ∃ (x y : Nat) (i : Bool), x < 115792089237316195423570985008687907853269984665640564039457584007913129639936 ∧ y < 115792089237316195423570985008687907853269984665640564039457584007913129639936 ∧ v = .agg #[.int .u64 ((limb 0 (x) : Nat) : Int), .int .u64 ((limb 1 (x) : Nat) : Int), .int .u64 ((limb 2 (x) : Nat) : Int), .int .u64 ((limb 3 (x) : Nat) : Int), .int .u64 ((limb 0 (y) : Nat) : Int), .int .u64 ((limb 1 (y) : Nat) : Int), .int .u64 ((limb 2 (y) : Nat) : Int), .int .u64 ((limb 3 (y) : Nat) : Int), .bool i] := by
  obtain ⟨cs, rfl, hsz, _⟩ : ∃ cs, v = .agg cs ∧ cs.size = Tryz.prog.cellsOf 26 ∧ Row.okWide Tryz.prog W .any base 26 cs := by
    simpa [Value.okWide, Tryz.undP] using hv
  rw [Tryz.cellsP] at hsz
  obtain ⟨l⟩ := cs
  obtain ⟨c0, c1, c2, c3, c4, c5, c6, c7, c8, rfl⟩ := list9 l hsz
  obtain ⟨fuel, hf0⟩ := h
  obtain ⟨n0, n1, n2, hl, _, _, _, t0, t1, t2, o0, o1, o2⟩ := fieldsPt
  obtain ⟨xs, m, _, _, _, hxl, hf⟩ := DataW.trod_struct Tryz.undP hf0
  have hget : ∀ i (f : Field), (Tryz.prog.fieldsOf 26).toList[i]? = some f → DataW.trod enc Tryz.prog W 0 (fun _ => true) true m f.type (([c0, c1, c2, c3, c4, c5, c6, c7, c8].drop f.offset).take (Tryz.prog.cellsOf f.type)) = xs[i]? := fun i f hi => hf i f (by simpa using hi)
  have hx3 : xs.length = 3 := by rw [hxl]; simpa using congrArg List.length hl
  rw [hl] at hget
  have g0 := hget 0 n0 rfl; have g1 := hget 1 n1 rfl; have g2 := hget 2 n2 rfl
  rw [t0, o0, Tryz.cellsE, List.getElem?_eq_getElem (by omega)] at g0
  rw [t1, o1, Tryz.cellsE, List.getElem?_eq_getElem (by omega)] at g1
  rw [t2, o2, Tryz.cellsT, List.getElem?_eq_getElem (by omega)] at g2
  obtain ⟨x, hx, rfl, rfl, rfl, rfl⟩ := openQ g0
  obtain ⟨y, hy, rfl, rfl, rfl, rfl⟩ := openQ g1
  obtain ⟨i, rfl⟩ := openT g2
  exact ⟨x, y, i, hx, hy, rfl⟩

/-- The door's own heap meets the condition: closed facts. -/
theorem door_met (os : Os) (args : Array Value) : laidMetH Tryz.prog laidF ((World.doorLaid Tryz.prog 400 os).forCall (fun _ _ => 0) ⟨#[], args, []⟩).memory :=
  laidMetH_of_parts3 (fuel := 8) (laidMet_of_run' 8 (by kernel_rfl) (by kernel_rfl)) (by kernel_rfl) (by kernel_rfl)

set_option maxHeartbeats 1000000 in
set_option maxRecDepth 100000 in
theorem lifted (os : Os) (started : os.Started) (H : Type) (enc : TypeId × Value → H) :
    ReturnsInHanded {} Tryz.checked os 3 .any (fun w args => (Rows.curveSumsSpec.pre enc Tryz.prog Tryz.f3 [] false w args ∧ laidMetH Tryz.prog laidF w) ∧ sizedMet enc Tryz.prog Tryz.f3 (OpenSpec.ofChange Rows.curveSumsSpec) false w args)
      (Rows.curveSumsSpec.post enc Tryz.prog Tryz.f3 false true false false) := by
  refine returnsInHanded_of_change_and (C := Tryz.checked) (X := fun w _ => laidMetH Tryz.prog laidF w) (fun _ _ _ hh h => h.of_heap hh) Tryz.own started (by kernel_rfl) Tryz.func3
    (ChangeSpec.witness_shaped (enc := enc) (C := Tryz.checked) (os := os) (X := fun w _ => laidMetH Tryz.prog laidF w) false (World.doorLaid Tryz.prog 400 os) #[.int .i64 0, .agg #[.int .u64 0, .int .u64 0, .int .u64 0, .int .u64 0, .int .u64 0, .int .u64 0, .int .u64 0, .int .u64 0, .bool false], .agg #[.int .u64 0, .int .u64 0, .int .u64 0, .int .u64 0, .int .u64 0, .int .u64 0, .int .u64 0, .int .u64 0, .bool false]] 8 rfl (World.shaped_of_RefB (by kernel_rfl) (by kernel_rfl)) (by kernel_rfl) (by kernel_rfl) (by kernel_rfl) (door_met os _)) ?_
  intro W base args ds gs before hval0 hW _ _ hL _
  have hval : ∀ (j : Nat) t v, Tryz.f3.params[j]? = some t → args[j]? = some v → Value.okWide Tryz.prog W .any base t v := hval0
  have hW' := hW
  obtain ⟨p, q, hA0, hV, rfl, _, _⟩ := hW
  have hA : DataW.TrodAll enc Tryz.prog W 0 (fun _ => true) true Tryz.f3.params.toList args.toList ds p := hA0
  rw [Tryz.params3] at hA hval
  obtain ⟨v0, v1, v2, d0, d1, d2, p0, p1, p2, rfl, rfl, rfl, h0, h1, h2⟩ := trodAll_three hA
  obtain ⟨rfl, rfl⟩ := trodVars_none hV
  obtain ⟨x0, rfl, rfl, rfl, hx0⟩ := open_int Tryz.underlying3 (hval 0 3 v0 rfl rfl) h0
  have h1k := h1
  obtain ⟨x1, y1, i1, hx1, hy1, rfl⟩ := openP (hval 1 26 v1 rfl rfl) h1
  have h2k := h2
  obtain ⟨x2, y2, i2, hx2, hy2, rfl⟩ := openP (hval 2 26 v2 rfl rfl) h2
  clear hA0 hval0
  simp only [List.append_nil, List.nil_append] at hW'
  refine (csums_walk x0 x1 y1 x2 y2 i1 i2 hx1 hy1 hx2 hy2 W (globC_of_laid hL)).mono fun e W' ⟨he, hb⟩ => ?_
  subst he
  have r1 : (Rows.curveSumsSpec.fn H ([.lit (.int .i64 x0), d1, d2] ++ [])).results = [.lit (.bool true)] := by simp [Rows.curveSumsSpec]
  have a1 : (Rows.curveSumsSpec.fn H ([.lit (.int .i64 x0), d1, d2] ++ [])).args = [.lit (.int .i64 x0), d1, d2] := by simp [Rows.curveSumsSpec]
  have v1 : (Rows.curveSumsSpec.fn H ([.lit (.int .i64 x0), d1, d2] ++ [])).vars = [] := by simp [Rows.curveSumsSpec]
  refine ⟨_, rfl, _, _, _, [], ([] ++ (p1 ++ p2)), [], hW', ?_, ?_, ?_, hb.frame _, fun h => by cases h⟩
  · rw [r1]; exact trodAll_mk1 (shut_bool Tryz.underlying4 true)
  · rw [a1]; exact trodAll_mk3 (shut_int Tryz.underlying3 hx0) (Below.trod Tryz.laidOut (by kernel_rfl) (of_decide_eq_true (by kernel_rfl)) h1k hb (fun x hx => by simpa using hW'.lt x (by simp [hx]))) (Below.trod Tryz.laidOut (by kernel_rfl) (of_decide_eq_true (by kernel_rfl)) h2k hb (fun x hx => by simpa using hW'.lt x (by simp [hx])))
  · rw [v1]; rfl

theorem curveSums_holds : Rows.CurveSumsSaid :=
  OpenClaim.holds_of_wide 3 Tryz.f3 rfl rfl rfl rfl rfl rfl rfl ⟨rfl, rfl, rfl, rfl, rfl⟩ rfl rfl rfl rfl rfl (by kernel_rfl) Tryz.func3 (by kernel_rfl)
    (of_decide_eq_true (by kernel_rfl)) (by unfold Func.isWrapper; first | (rw [if_pos (by decide +kernel)]; kernel_rfl) | (rw [if_neg (by decide +kernel)]; exact ⟨rfl, rfl⟩))
    (fun os started H enc _ => lifted os started H enc)

/-- The card: the row, its listed variables tied to the program's text. -/
theorem curveSums_card : Rows.CurveSumsCardSaid :=
  Claim7.holds_tied_plain_at .later [] [.data, .data, .data] true (true, "d6b1a17f3adb34549f99fe127985d28b5b25d0c9775b581e7ab338ee6360b3b7") false
    curveSums_holds (fun _ h => by cases h) (by kernel_rfl) (fun _ h => by cases h) curveSums_row_tie rfl ⟨rfl, rfl⟩ (by kernel_rfl) rfl
    (fun f fn hf hfn => by
      obtain rfl : f = 3 := Option.some.inj ((show Tryz.prog.funcNamed "sigil/sigillaw04.CurveSums" = some 3 by kernel_rfl).symm.trans hf) |>.symm
      obtain rfl : fn = Tryz.f3 := (Option.some.inj (Tryz.func3.symm.trans hfn)).symm
      exact ⟨by kernel_rfl, fun j t ht => by
        rw [Tryz.params3] at ht
        have hm : t ∈ [3, 26, 26] := by simpa using Array.mem_of_getElem? ht
        have hall : ([3, 26, 26].all fun u => !Tryz.prog.wantsStandIn u) = true := by kernel_rfl
        exact (show Tryz.prog.wantsStandIn t = false by simpa using List.all_eq_true.1 hall t hm)⟩)
    (by kernel_rfl)

#print axioms curveSums_card
end Go.Proofs.YtaeembdabnomaaaGreatDoor

