/- Slices of bytes: what SameBytes does. -/
import Derived.Test.YthkajdmcmodklaaGreatDoorBA
import Derived.Test.YthkajdmcmodklaaGreatDoorChecked
import Derived.LoopN
import Derived.Deep.QuietTactic
import Derived.BigQuiet
import Derived.Deep.Draws
import Derived.OwnWalk
import Derived.Laws.AppendOwnNone
import Derived.Test.YthkajdmcmodklaaGreatDoorFD
import Derived.Laws.MakeOwn
namespace Go.Proofs.YthkajdmcmodklaaGreatDoor
open Go.RowKit

/-- v is a slice of n bytes, f 0 and on. -/
def Bs (w : World) (v : Value) (n : Nat) (f : Nat → Nat) : Prop :=
  (v = .slice none 0 0 ∧ n = 0) ∨ ∃ (a : Addr) (c : Nat), v = .slice (some a) n c ∧ n ≤ c ∧ c ≤ maxLen ∧ a.block < w.heap.size ∧ ∀ i, i < n → w.cell? (a.add i) = some (.int .u8 ((f i : Nat) : Int))
/-- The first n bytes are the same. -/
def sameB (f g : Nat → Nat) (n : Nat) : Bool := decide (∀ i, i < n → f i = g i)

theorem drewN_drewN (w : World) (i j : Nat) : (w.drewN i).drewN j = w.drewN (i + j) := World.drewN_drewN w i j

set_option maxHeartbeats 2000000 in
theorem same_len (v u : Value) (n m cn cm : Nat) (a b : Addr) (hv : v = .slice (some a) n cn) (hu : u = .slice (some b) m cm) (hne : ¬ n = m) (w : World) :
    Calls Tryz.prog 21 #[v, u] w fun e w' => e = .returned (.bool false) ∧ w' = w := by
  subst hv hu
  have h1 : ((n : Int) != (m : Int)) = true := by simp; omega
  clear hne
  go_enter Tryz.func21, Tryz.ntmps21
  go_wp2
  go_ret
  exact ⟨rfl, rfl⟩

set_option maxHeartbeats 4000000 in
theorem same_some (n cn cm : Nat) (a b : Addr) (f g : Nat → Nat) (hn : n ≤ maxLen) (w : World) (ha : ∀ i, i < n → w.cell? (a.add i) = some (.int .u8 ((f i : Nat) : Int))) (hb : ∀ i, i < n → w.cell? (b.add i) = some (.int .u8 ((g i : Nat) : Int))) :
    Calls Tryz.prog 21 #[.slice (some a) n cn, .slice (some b) n cm] w fun e w' => e = .returned (.bool (sameB f g n)) ∧ ∃ k, w' = w.drewN k := by
  unfold maxLen at hn
  have HA := (show Hid _ from ha); have HB := (show Hid _ from hb)
  clear ha hb
  go_enter Tryz.func21, Tryz.ntmps21
  go_wp2
  go_loopw [5] (fun i wr => ∃ k : Nat, i = .int .i64 (k : Int) ∧ k ≤ n ∧ Hid (∀ j, j < k → f j = g j) ∧ ∃ d, wr = w.drewN d) (fun i _ => n - (intOf i).toNat)
  case atStart => exact ⟨0, rfl, by omega, fun j hj => by omega, 0, rfl⟩
  case round =>
    obtain ⟨k, rfl, hk, hs, d, rfl⟩ := hrel
    by_cases hlt : k < n
    · have hki : (k : Int) < (n : Int) := by omega
      have ca : w.cell? (a.add k) = some (.int .u8 ((f k : Nat) : Int)) := HA.out k hlt
      have cb : w.cell? (b.add k) = some (.int .u8 ((g k : Nat) : Int)) := HB.out k hlt
      by_cases he : f k = g k
      · have hq : (((f k : Nat) : Int) != ((g k : Nat) : Int)) = false := by simp [he]
        have HE := (show Hid _ from he)
        clear he
        obtain ⟨x, ex⟩ : ∃ x : Int, x = ((f k : Nat) : Int) := ⟨_, rfl⟩
        obtain ⟨y, ey⟩ : ∃ y : Int, y = ((g k : Nat) : Int) := ⟨_, rfl⟩
        rw [← ex] at ca hq
        rw [← ey] at cb hq
        clear ex ey
        go_wp2_with fail
        go_quiet (fail)
        go_wp2
        go_roundw
        case measure => simp [intOf]; omega
        case rel =>
          refine ⟨k + 1, by go_num, by omega, fun j hj => ?_, _, rfl⟩
          rcases Nat.lt_or_ge j k with h | h
          · exact hs.out j h
          · rw [show j = k from by omega]; exact HE.out
      · have hq : (((f k : Nat) : Int) != ((g k : Nat) : Int)) = true := by simp; omega
        have HE : Hid (sameB f g n = false) := by
          show _ = _
          unfold sameB
          simp only [decide_eq_false_iff_not]
          exact fun h => he (h k hlt)
        clear he
        obtain ⟨x, ex⟩ : ∃ x : Int, x = ((f k : Nat) : Int) := ⟨_, rfl⟩
        obtain ⟨y, ey⟩ : ∃ y : Int, y = ((g k : Nat) : Int) := ⟨_, rfl⟩
        rw [← ex] at ca hq
        rw [← ey] at cb hq
        clear ex ey
        go_wp2_with fail
        go_quiet (fail)
        go_wp2
        go_ret
        exact ⟨by rw [HE.out]; rfl, _, drewN_drewN _ _ _⟩
    · have hki : ¬ (k : Int) < (n : Int) := by omega
      have hkn : k = n := by omega
      have HE : Hid (sameB f g n = true) := by
        show _ = _
        unfold sameB
        simp only [decide_eq_true_eq]
        rw [← hkn]
        exact hs.out
      clear hkn hlt
      go_wp2
      go_ret
      exact ⟨by rw [HE.out]; rfl, d, rfl⟩

theorem Bs.below {w w' : World} {v : Value} {n : Nat} {f : Nat → Nat} (h : Bs w v n f) (hb : Below w.heap.size w w') : Bs w' v n f := by
  rcases h with h | ⟨a, c, hv, h1, h2, h3, h4⟩
  · exact Or.inl h
  · refine Or.inr ⟨a, c, hv, h1, h2, Nat.lt_of_lt_of_le h3 hb.size, fun i hi => ?_⟩
    rw [hb.cell (p := a.add i) (by unfold Addr.add; split <;> exact h3)]
    exact h4 i hi
set_option maxHeartbeats 2000000 in
theorem same_nn (w : World) : Calls Tryz.prog 21 #[.slice none 0 0, .slice none 0 0] w fun e w' => e = .returned (.bool true) ∧ w' = w := by
  go_enter Tryz.func21, Tryz.ntmps21
  go_wp2
  go_loop [5] (fun i => i = .int .i64 0) (fun _ => 0)
  case atStart => rfl
  case round =>
    subst hrel
    go_wp2
    go_ret
    exact ⟨rfl, rfl⟩
set_option maxHeartbeats 2000000 in
theorem same_ns (m c : Nat) (b : Addr) (w : World) : Calls Tryz.prog 21 #[.slice none 0 0, .slice (some b) m c] w fun e w' => e = .returned (.bool (decide (m = 0))) ∧ w' = w := by
  by_cases h : m = 0
  · subst h
    go_enter Tryz.func21, Tryz.ntmps21
    go_wp2
    go_loop [5] (fun i => i = .int .i64 0) (fun _ => 0)
    case atStart => rfl
    case round =>
      subst hrel
      go_wp2
      go_ret
      exact ⟨rfl, rfl⟩
  · have h1 : ((0 : Int) != (m : Int)) = true := by simp; omega
    rw [show decide (m = 0) = false from by simp [h]]
    clear h
    go_enter Tryz.func21, Tryz.ntmps21
    go_wp2
    go_ret
    exact ⟨rfl, rfl⟩

end Go.Proofs.YthkajdmcmodklaaGreatDoor

/- Slices of bytes: what CopyBytes does. -/
namespace Go.Proofs.YthkajdmcmodklaaGreatDoor
open Go.RowKit

def bys (f : Nat → Nat) (n : Nat) : List Value := (List.range n).map (fun i => Value.int .u8 ((f i : Nat) : Int))
theorem bys_get (f : Nat → Nat) (n i : Nat) (h : i < n) : (bys f n)[i]? = some (.int .u8 ((f i : Nat) : Int)) := by simp [bys, h]
theorem bys_len (f : Nat → Nat) (n : Nat) : (bys f n).length = n := by simp [bys]
theorem byteInfo : ∃ i : TypeInfo, Tryz.prog.info? 5 = some i ∧ i.zero = some (.int .u8 0) ∧ i.size = 1 ∧ i.bytes = 1 := by
  have h : (Tryz.prog.info? 5).map (fun i => (i.zero, i.size, i.bytes)) = some (some (.int .u8 0), 1, 1) := by kernel_rfl
  obtain ⟨i, hi, he⟩ := Option.map_eq_some_iff.mp h
  simp only [Prod.mk.injEq] at he
  exact ⟨i, hi, he.1, he.2.1, he.2.2⟩
theorem new_block' (w : World) (o : Obj) : (w.alloc o).heap[w.heap.size]? = some o := by
  show (w.heap.push o)[w.heap.size]? = _; simp
theorem own_block_ge' {w : World} {base : Nat} {e : TypeId} {size : Nat} {v : Value} {n : Nat} {xs : List Value} (h : w.ownsRow base e size v n xs) {j : Nat} (hj : v.ownBlock = some j) : base ≤ j := by
  obtain ⟨_, h⟩ := h
  rcases h with ⟨rfl, _⟩ | ⟨g, c, cur, rfl, hb, _⟩
  · simp [Value.ownBlock] at hj
  · simp [Value.ownBlock] at hj; omega

set_option maxHeartbeats 2000000 in
theorem copy_some (n cn : Nat) (a : Addr) (f : Nat → Nat) (hn : n ≤ 140737488351232) (w : World) (ha : a.block < w.heap.size) (hc : ∀ i, i < n → w.cell? (a.add i) = some (.int .u8 ((f i : Nat) : Int))) :
    Calls Tryz.prog 25 #[.slice (some a) n cn] w fun e w' => ∃ v, e = .returned v ∧ w'.ownsRow w.heap.size 5 1 v n (bys f n) ∧ Below w.heap.size w w' := by
  obtain ⟨i0, hi, hz0, hz1, hz2⟩ := byteInfo
  have HI := (show Hid _ from hi); have HZ := (show Hid _ from And.intro hz0 (And.intro hz1 hz2)); clear hi hz0 hz1 hz2
  have HC := (show Hid _ from hc); clear hc
  have hown0 : (w.alloc (.cells #[] 5)).ownsRow w.heap.size 5 1 (.slice (some ⟨w.heap.size, 0, none⟩) 0 0) 0 [] :=
    ⟨rfl, Or.inr ⟨w.heap.size, 0, #[], rfl, Nat.le_refl _, new_block' _ _, Nat.le_refl _, by decide, rfl, rfl⟩⟩
  have HO : Hid ((w.alloc (.cells #[] 5)).ownsRow w.heap.size 5 1 (.slice (some ⟨w.heap.size, 0, none⟩) 0 0) 0 []) := hown0
  clear hown0
  go_enter Tryz.func25, Tryz.ntmps25
  go_wp2_with (first
    | (at_builtin; refine wpList_append_own _ rfl _ _ 34 rfl w.heap.size 5 i0 (.int .u8 0) 1 1 Tryz.underlying34 HI.out HZ.out.1 HZ.out.2.1 HZ.out.2.2 rfl (by decide) _ _ _ rfl HO.out a n cn (bys f n) rfl ?c0 ?c1 ?c2 ?c3 ?c4 ?c5 ?_)
    | go_in)
  case c0 => rw [bys_len]; omega
  case c1 =>
    intro j u hj
    have hjn : j < n := by
      rcases Nat.lt_or_ge j n with h | h
      · exact h
      · rw [List.getElem?_eq_none (by rw [bys_len]; exact h)] at hj; cases hj
    rw [bys_get f n j hjn] at hj
    cases hj
    have hb : Below w.heap.size w (w.alloc (.cells #[] 5)) := (Below.refl _ _).alloc (Nat.le_refl _) _
    rw [hb.cell (p := a.add j) (by unfold Addr.add; split <;> exact ha)]
    exact HC.out j hjn
  case c2 => intro u hu; unfold bys at hu; obtain ⟨i, _, rfl⟩ := List.mem_map.mp hu; rfl
  case c3 => unfold maxLen; omega
  case c4 => omega
  case c5 => simp
  intro v' w2 hown' hgrow _
  go_wp2
  go_ret
  refine ⟨_, rfl, ?_, ?_⟩
  · exact hown'
  · exact ((Below.refl _ w).alloc (Nat.le_refl _) _).grown hgrow (by simp) (fun j hj => own_block_ge' HO.out hj)

set_option maxHeartbeats 2000000 in
theorem copy_nil (w : World) :
    Calls Tryz.prog 25 #[.slice none 0 0] w fun e w' => ∃ v, e = .returned v ∧ w'.ownsRow w.heap.size 5 1 v 0 [] ∧ Below w.heap.size w w' := by
  obtain ⟨i0, hi, _, _, _⟩ := byteInfo
  have HI := (show Hid _ from hi); clear hi
  have hown0 : (w.alloc (.cells #[] 5)).ownsRow w.heap.size 5 1 (.slice (some ⟨w.heap.size, 0, none⟩) 0 0) 0 [] :=
    ⟨rfl, Or.inr ⟨w.heap.size, 0, #[], rfl, Nat.le_refl _, new_block' _ _, Nat.le_refl _, by decide, rfl, rfl⟩⟩
  have HO : Hid ((w.alloc (.cells #[] 5)).ownsRow w.heap.size 5 1 (.slice (some ⟨w.heap.size, 0, none⟩) 0 0) 0 []) := hown0
  clear hown0
  go_enter Tryz.func25, Tryz.ntmps25
  go_wp2_with (first
    | (at_builtin; refine wpList_append_own_none rfl _ _ 34 rfl w.heap.size 5 i0 1 Tryz.underlying34 HI.out _ _ _ rfl HO.out rfl ?_)
    | go_in)
  go_wp2
  go_ret
  exact ⟨_, rfl, HO.out, (Below.refl _ w).alloc (Nat.le_refl _) _⟩
/-- A slice of the call's own, as bytes. -/
theorem own_Bs {w : World} {base n : Nat} {v : Value} {f : Nat → Nat} (h : w.ownsRow base 5 1 v n (bys f n)) : Bs w v n f := by
  obtain ⟨_, h⟩ := h
  rcases h with ⟨rfl, h0⟩ | ⟨g, c, cur, rfl, hb, hg, hc, hm, hs, ht⟩
  · exact Or.inl ⟨rfl, h0⟩
  · refine Or.inr ⟨⟨g, 0, none⟩, c, rfl, hc, hm, ?_, fun i hi => ?_⟩
    · rcases Nat.lt_or_ge g w.heap.size with hl | hl
      · exact hl
      · rw [Array.getElem?_eq_none hl] at hg; cases hg
    · have h1 : cur[i]? = (bys f n)[i]? := by rw [← ht]; simp [hi]
      rw [bys_get f n i hi] at h1
      have hadd : (⟨g, 0, none⟩ : Addr).add i = ⟨g, i, none⟩ := by unfold Addr.add; split <;> simp_all
      rw [hadd]
      simp [World.cell?, hg, h1]
/-- CopyBytes: the same bytes in new memory. -/
theorem copy_any (n : Nat) (v : Value) (f : Nat → Nat) (hn : n ≤ 140737488351232) (w : World) (h : Bs w v n f) :
    Calls Tryz.prog 25 #[v] w fun e w' => ∃ v', e = .returned v' ∧ w'.ownsRow w.heap.size 5 1 v' n (bys f n) ∧ Below w.heap.size w w' := by
  rcases h with ⟨rfl, rfl⟩ | ⟨a, c, rfl, _, _, hb, hc⟩
  · exact copy_nil w
  · exact copy_some n c a f hn w hb hc

end Go.Proofs.YthkajdmcmodklaaGreatDoor

/- Blocks of bytes; what field.Encode does. -/
namespace Go.Proofs.YthkajdmcmodklaaGreatDoor
open Go.RowKit

/-- Block b is an array of n bytes, f 0 and on. -/
def BlkB (w : World) (t : TypeId) (b n : Nat) (f : Nat → Nat) : Prop :=
  ∃ c : Array Value, w.heap[b]? = some (.cells c t) ∧ c.size = n ∧ ∀ i, i < n → c[i]? = some (.int .u8 ((f i : Nat) : Int))
section
variable {w w' : World} {t : TypeId} {b n : Nat} {f g : Nat → Nat}
theorem BlkB.lt (h : BlkB w t b n f) : b < w.heap.size := by
  obtain ⟨c, hc, _⟩ := h
  rcases Nat.lt_or_ge b w.heap.size with hl | hl
  · exact hl
  · rw [Array.getElem?_eq_none hl] at hc; cases hc
theorem BlkB.cell (h : BlkB w t b n f) : ∀ i, i < n → w.cell? ⟨b, i, none⟩ = some (.int .u8 ((f i : Nat) : Int)) := by
  obtain ⟨c, hc, hs, hf⟩ := h
  intro i hi
  simp [World.cell?, hc, hf i hi]
theorem BlkB.frozen (h : BlkB w t b n f) : ∀ o, w.frozen? ⟨b, o, none⟩ = false := by
  obtain ⟨c, hc, _⟩ := h
  intro o
  simp [World.frozen?, hc]
theorem BlkB.below {m : Nat} (h : BlkB w t b n f) (hb : Below m w w') (hm : b < m) : BlkB w' t b n f := by
  obtain ⟨c, hc, hs⟩ := h
  exact ⟨c, by rw [hb.block b hm]; exact hc, hs⟩
theorem BlkB.belowAll (h : BlkB w t b n f) (hb : Below w.heap.size w w') : BlkB w' t b n f := h.below hb h.lt
theorem BlkB.drew (h : BlkB w t b n f) : BlkB w.drew t b n f := h
theorem BlkB.alloc (h : BlkB w t b n f) (o : Obj) : BlkB (w.alloc o) t b n f := h.below ((Below.refl _ _).alloc (Nat.le_refl _) o) h.lt
theorem BlkB.newAt (w : World) (t : TypeId) (b n : Nat) (f : Nat → Nat) (c : Array Value) (hb : b = w.heap.size) (hs : c.size = n) (hf : ∀ i, i < n → c[i]? = some (.int .u8 ((f i : Nat) : Int))) : BlkB (w.alloc (.cells c t)) t b n f :=
  ⟨c, by subst hb; show (w.heap.push _)[w.heap.size]? = _; simp, hs, hf⟩
theorem BlkB.other (h : BlkB w t b n f) {a : Addr} (ha : b ≠ a.block) (v : Value) : BlkB (w.setCell a v) t b n f := by
  obtain ⟨c, hc, hs⟩ := h
  exact ⟨c, by rw [Below.heap_setCell w a v b ha]; exact hc, hs⟩
theorem BlkB.congr (h : BlkB w t b n f) (hg : ∀ i, i < n → g i = f i) : BlkB w t b n g := by
  obtain ⟨c, hc, hs, hf⟩ := h
  exact ⟨c, hc, hs, fun i hi => by rw [hf i hi, hg i hi]⟩
theorem BlkB.set (h : BlkB w t b n f) (k : Nat) (hk : k < n) (v : Nat) : BlkB (w.setCell ⟨b, k, none⟩ (.int .u8 ((v : Nat) : Int))) t b n (fun i => if i = k then v else f i) := by
  obtain ⟨c, hc, hs, hf⟩ := h
  refine ⟨c.setIfInBounds k (.int .u8 ((v : Nat) : Int)), ?_, by simp [hs], ?_⟩
  · simp [World.setCell, Array.getElem?_modify, hc]
  · intro i hi
    by_cases e : i = k
    · subst e; simp [hs, hi]
    · simp [e, Ne.symm (fun h => e h), hf i hi]
end


theorem own_blkB {w : World} {base g n : Nat} {e : TypeId} {xs : List Value} {f : Nat → Nat} (h : w.ownsRow base e 1 (.slice (some ⟨g, 0, none⟩) n n) n xs) (hf : ∀ i, i < n → xs[i]? = some (.int .u8 ((f i : Nat) : Int))) (hn : 0 < n) : BlkB w e g n f ∧ base ≤ g := by
  obtain ⟨hl, h⟩ := h
  rcases h with ⟨h0, h1⟩ | ⟨g', c, cur, h1, hb, hg, hc, _, hs, ht⟩
  · omega
  · cases h1
    refine ⟨⟨cur, hg, by omega, ?_⟩, hb⟩
    intro i hi
    rw [← hf i hi, ← ht]
    simp [hi]

/-- The bytes of a number, the least first. -/
def encB (x i : Nat) : Nat := x / 256 ^ i % 256
theorem encB_limb (x i : Nat) : limb (i / 8) x / 2 ^ (8 * (i % 8)) % 256 = encB x i := by
  unfold encB
  apply Nat.eq_of_testBit_eq
  intro t
  rw [show (256 : Nat) = 2 ^ 8 from by decide, ← Nat.pow_mul, Nat.testBit_mod_two_pow, Nat.testBit_mod_two_pow, Nat.testBit_div_two_pow, Nat.testBit_div_two_pow, limb_test]
  by_cases h : t < 8
  · simp [h, show t + 8 * (i % 8) < 64 from by omega]
    congr 1; omega
  · simp [h]
theorem enc_run (x q t : Nat) (hx : q / 2 ^ t % 256 = x) : IntKind.u8.wrap ((q : Int) / 2 ^ t) = (x : Int) := by
  have e : (q : Int) / 2 ^ t = ((q / 2 ^ t : Nat) : Int) := by simp
  rw [e, IntKind.wrap_u8, ← hx]
  generalize q / 2 ^ t = y
  omega

set_option maxHeartbeats 4000000 in
set_option maxRecDepth 20000 in
theorem fEncode_any (s a : Nat) (hs : s < 4) (ha : a < 115792089237316195423570985008687907853269984665640564039457584007913129639936) (w : World) (hg : Glob w) :
    Calls Tryz.prog 49 #[.int .i64 (s : Int), .agg #[.int .u64 ((limb 0 (a) : Nat) : Int), .int .u64 ((limb 1 (a) : Nat) : Int), .int .u64 ((limb 2 (a) : Nat) : Int), .int .u64 ((limb 3 (a) : Nat) : Int)]] w fun e w' => ∃ g, e = .returned (.slice (some ⟨g, 0, none⟩) 32 32) ∧ w.heap.size ≤ g ∧ BlkB w' 5 g 32 (encB (a % modN s)) ∧ Below w.heap.size w w' := by
  obtain ⟨i0, hi, hz0, hz1, hz2⟩ := byteInfo
  have HI := (show Hid _ from hi); have HZ := (show Hid _ from And.intro hz0 (And.intro hz1 hz2)); clear hi hz0 hz1 hz2
  have hgl := (modN_good s).lt
  have HM := fun w hg => modulus_any s hs w hg
  obtain ⟨m, em⟩ : ∃ m, m = modN s := ⟨_, rfl⟩
  rw [← em] at hgl HM ⊢
  clear em
  have EA := fun w => element_any m a hgl.1 hgl.2.2 ha w
  obtain ⟨x, ex⟩ : ∃ x, x = a % m := ⟨_, rfl⟩
  rw [← ex] at EA ⊢
  clear ex hgl
  have TE := fun w => toElem_any x w
  go_enter Tryz.func49, Tryz.ntmps49
  go_wp2_with fail
  obtain ⟨w0, hw0⟩ : ∃ w0 : World, w0 = w.alloc (.cells #[.int .u64 ((limb 0 (a) : Nat) : Int), .int .u64 ((limb 1 (a) : Nat) : Int), .int .u64 ((limb 2 (a) : Nat) : Int), .int .u64 ((limb 3 (a) : Nat) : Int)] 24) := ⟨_, rfl⟩
  have ba0 : Blk w0 24 w.heap.size (fun i => limb i a) := by rw [hw0]; exact Blk.newAt _ _ _ (fun i => limb i a) (by simp)
  have hb0 : Below w.heap.size w w0 := by rw [hw0]; exact (Below.refl _ _).alloc (Nat.le_refl _) _
  have hg0 : Glob w0 := by rw [hw0]; exact hg.alloc _
  rw [← hw0]
  clear hw0 hg
  refine (HM _ hg0).mono ?_
  rintro e w1 ⟨rfl, hb1⟩
  have ba1 := ba0.belowAll hb1
  have hbw1 := bStep hb0 hb1
  have la := ba1.lt
  clear ba0 hb0 hb1 hg0 HM
  have ca := ba1.cell
  obtain ⟨hA, hG⟩ := acell (w := w1) (n := w1.heap.size) (Nat.le_refl _)
  go_wp2_with fail
  refine (EA _).mono ?_
  rintro e w2 ⟨rfl, hb2⟩
  have hbw2 := bStep (bAlloc hbw1 _) hb2
  clear ba1 hbw1 hb2 ca hA hG la EA
  go_wp2_with fail
  refine (TE _).mono ?_
  rintro e w3 ⟨rfl, hb3⟩
  have hbw3 := bStep hbw2 hb3
  clear hbw2 hb3 TE
  go_upto_region 5 with fail
  obtain ⟨w4, hw4⟩ : ∃ w4 : World, w4 = w3.alloc (.cells #[.int .u64 ((limb 0 (x) : Nat) : Int), .int .u64 ((limb 1 (x) : Nat) : Int), .int .u64 ((limb 2 (x) : Nat) : Int), .int .u64 ((limb 3 (x) : Nat) : Int)] 24) := ⟨_, rfl⟩
  have bx4 : Blk w4 24 w3.heap.size (fun i => limb i x) := by rw [hw4]; exact Blk.new w3 _ (fun i => limb i x)
  have hbw4 : Below w.heap.size w w4 := by rw [hw4]; exact bAlloc hbw3 _
  have l3 := hbw3.size
  rw [← hw4]
  clear hw4 hbw3
  go_wp2_with (first
    | (at_make; refine wpList_make_full _ rfl _ _ 34 rfl w4.heap.size 5 i0 (.int .u8 0) 1 Tryz.underlying34 HI.out HZ.out.1 HZ.out.2.1 .i64 .i64 32 32 32 rfl rfl rfl rfl ?c1 (by decide) (Nat.le_refl _) ?_)
    | go_in)
  case c1 => rw [HZ.out.2.2]; decide
  intro w5 hown hgrow
  obtain ⟨bS, _⟩ := own_blkB (f := fun _ => 0) hown (by intro i hi; simp [madeCells]; exact ⟨i, by simp [hi], by rw [Nat.mod_one]; rfl⟩) (by decide)
  have hbe : Below w4.heap.size w4 w5 := (Below.refl _ w4).grown hgrow (Nat.le_refl _) (fun j hj => by cases hj)
  have hz4 := bx4.lt
  have l4 := hbw4.size
  have bx5 := bx4.belowAll hbe
  have hbw5 := bStep hbw4 hbe
  clear hown hgrow bx4 hbw4 hbe
  obtain ⟨G, eG⟩ : ∃ G, G = w4.heap.size := ⟨_, rfl⟩
  rw [← eG] at bS hz4 l4
  have hEG := (show Hid _ from eG)
  rw [← eG]
  clear eG
  go_wp2
  go_loopw [24] (fun iv wr => ∃ k : Nat, iv = .int .i64 (k : Int) ∧ k ≤ 32 ∧ Below w.heap.size w wr ∧ Blk wr 24 w3.heap.size (fun i => limb i x) ∧ BlkB wr 5 G 32 (fun j => if j < k then encB x j else 0)) (fun iv _ => 32 - (intOf iv).toNat)
  case atStart => exact ⟨0, rfl, by decide, hbw5, bx5, bS.congr (fun i _ => by simp)⟩
  case round =>
    obtain ⟨k, rfl, hk, hbr, bx, bG⟩ := hrel
    clear bx5 bS hbw5
    by_cases hlt : k < 32
    · have hR := enc_run (encB x k) (limb (k / 8) x) (8 * (k % 8)) (encB_limb x k)
      obtain ⟨iv, eiv⟩ : ∃ iv : Int, iv = (k : Int) := ⟨_, rfl⟩
      rw [← eiv]
      have h0 : 0 ≤ iv := by omega
      have h32 : iv < 32 := by omega
      have hq : iv / 8 = ((k / 8 : Nat) : Int) := by omega
      have hr : iv % 8 = ((k % 8 : Nat) : Int) := by omega
      have ht : ((k % 8 : Nat) : Int) * 8 = ((8 * (k % 8) : Nat) : Int) := by omega
      have tN : iv.toNat = k := by omega
      have q4 : k / 8 < 4 := by omega
      have t64 : 8 * (k % 8) < 64 := by omega
      have cx := bx.cell (k / 8) q4
      have cG := bG.cell k hlt; have fG := bG.frozen
      have HIV := (show Hid _ from eiv)
      obtain ⟨q, eq⟩ : ∃ q, q = k / 8 := ⟨_, rfl⟩
      obtain ⟨r, er⟩ : ∃ r, r = k % 8 := ⟨_, rfl⟩
      rw [← eq] at hR hq q4 cx
      rw [← er] at hR hr ht t64
      obtain ⟨t, et⟩ : ∃ t, t = 8 * r := ⟨_, rfl⟩
      rw [← et] at hR ht t64
      obtain ⟨X, eX⟩ : ∃ X : Int, X = ((limb q x : Nat) : Int) := ⟨_, rfl⟩
      rw [← eX] at hR cx
      obtain ⟨b, eb⟩ : ∃ b, b = encB x k := ⟨_, rfl⟩
      rw [← eb] at hR
      have EB := (show Hid _ from eb)
      clear eiv eq er et eX eb
      go_wp2
      go_roundw
      case measure => rw [HIV.out]; simp [intOf]; omega
      case rel =>
        refine ⟨k + 1, by rw [HIV.out]; go_num, by omega, hbr.setCell (by dsimp only; omega) _, bx.other (by dsimp only; omega) _, (bG.set k hlt b).congr ?_⟩
        intro j _
        by_cases hj : j = k
        · subst hj; simp [EB.out]
        · by_cases hj2 : j < k
          · simp [hj, hj2, show j < k + 1 from by omega]
          · simp [hj, hj2, show ¬ j < k + 1 from by omega]
    · have hki : ¬ (k : Int) < 32 := by omega
      have hk32 : k = 32 := by omega
      have bF := bG.congr (g := encB x) (fun i hi => by rw [if_pos (by omega)])
      clear bG hlt
      go_wp2
      go_ret
      exact ⟨G, rfl, by omega, bF, hbr⟩

end Go.Proofs.YthkajdmcmodklaaGreatDoor

/- Slices of bytes: SameBytes for any two. -/
namespace Go.Proofs.YthkajdmcmodklaaGreatDoor
open Go.RowKit

set_option maxHeartbeats 2000000 in
theorem same_sn (m c : Nat) (b : Addr) (w : World) : Calls Tryz.prog 21 #[.slice (some b) m c, .slice none 0 0] w fun e w' => e = .returned (.bool (decide (m = 0))) ∧ w' = w := by
  by_cases h : m = 0
  · subst h
    go_enter Tryz.func21, Tryz.ntmps21
    go_wp2
    go_loop [5] (fun i => i = .int .i64 0) (fun _ => 0)
    case atStart => rfl
    case round =>
      subst hrel
      go_wp2
      go_ret
      exact ⟨rfl, rfl⟩
  · have h1 : ((m : Int) != (0 : Int)) = true := by simp; omega
    rw [show decide (m = 0) = false from by simp [h]]
    clear h
    go_enter Tryz.func21, Tryz.ntmps21
    go_wp2
    go_ret
    exact ⟨rfl, rfl⟩
theorem Below.drewN' (w : World) (k : Nat) : Below w.heap.size w (w.drewN k) := by
  induction k with
  | zero => exact Below.refl _ _
  | succ k ih => exact ih.drew
/-- SameBytes: the same length and the same bytes. -/
theorem same_any (v u : Value) (n m : Nat) (f g : Nat → Nat) (w : World) (hv : Bs w v n f) (hu : Bs w u m g) :
    Calls Tryz.prog 21 #[v, u] w fun e w' => e = .returned (.bool (decide (n = m) && sameB f g n)) ∧ Below w.heap.size w w' := by
  rcases hv with ⟨rfl, rfl⟩ | ⟨a, ca, rfl, h1, h2, h3, h4⟩
  · rcases hu with ⟨rfl, rfl⟩ | ⟨b, cb, rfl, k1, k2, k3, k4⟩
    · refine (same_nn w).mono ?_
      rintro e w' ⟨rfl, rfl⟩
      exact ⟨by simp [sameB], Below.refl _ _⟩
    · refine (same_ns m cb b w).mono ?_
      rintro e w' ⟨rfl, rfl⟩
      refine ⟨?_, Below.refl _ _⟩
      by_cases h : m = 0 <;> simp [h, sameB, eq_comm]
  · rcases hu with ⟨rfl, rfl⟩ | ⟨b, cb, rfl, k1, k2, k3, k4⟩
    · refine (same_sn n ca a w).mono ?_
      rintro e w' ⟨rfl, rfl⟩
      refine ⟨?_, Below.refl _ _⟩
      by_cases h : n = 0 <;> simp [h, sameB]
    · by_cases h : n = m
      · subst h
        refine (same_some n ca cb a b f g (by omega) w h4 k4).mono ?_
        rintro e w' ⟨rfl, k, rfl⟩
        exact ⟨by simp, Below.drewN' w k⟩
      · refine (same_len _ _ n m ca cb a b rfl rfl h w).mono ?_
        rintro e w' ⟨rfl, rfl⟩
        exact ⟨by simp [h], Below.refl _ _⟩
theorem BlkB.Bs {w : World} {t : TypeId} {b n : Nat} {f : Nat → Nat} (h : BlkB w t b n f) (hn : n ≤ maxLen) : Go.Proofs.YthkajdmcmodklaaGreatDoor.Bs w (.slice (some ⟨b, 0, none⟩) n n) n f :=
  Or.inr ⟨⟨b, 0, none⟩, n, rfl, Nat.le_refl _, hn, h.lt, fun i hi => by
    have hadd : (⟨b, 0, none⟩ : Addr).add i = ⟨b, i, none⟩ := by unfold Addr.add; split <;> simp_all
    rw [hadd]; exact h.cell i hi⟩
theorem sameB_true {f g : Nat → Nat} {n : Nat} (h : ∀ i, i < n → f i = g i) : sameB f g n = true := by
  unfold sameB; simp only [decide_eq_true_eq]; exact h

end Go.Proofs.YthkajdmcmodklaaGreatDoor

/- What field.littleEndian does. -/
namespace Go.Proofs.YthkajdmcmodklaaGreatDoor
open Go.RowKit

/-- The number of the first k bytes, the least first. -/
def leN (f : Nat → Nat) : Nat → Nat
  | 0 => 0
  | k + 1 => leN f k + f k * 256 ^ k
theorem leN_lt (f : Nat → Nat) : ∀ k, (∀ i, i < k → f i < 256) → leN f k < 256 ^ k
  | 0, _ => by simp [leN]
  | k + 1, h => by
    have h1 := leN_lt f k (fun i hi => h i (by omega))
    have h2 := h k (by omega)
    have h3 : f k * 256 ^ k ≤ 255 * 256 ^ k := Nat.mul_le_mul_right _ (by omega)
    unfold leN
    rw [Nat.pow_succ]
    omega
theorem leN_or (f : Nat → Nat) (k : Nat) (h : ∀ i, i < k → f i < 256) : leN f (k + 1) = 2 ^ (8 * k) * f k ||| leN f k := by
  have h1 := leN_lt f k h
  rw [show (256 : Nat) = 2 ^ 8 from by decide, ← Nat.pow_mul] at h1
  rw [← Nat.two_pow_add_eq_or_of_lt h1]
  show leN f k + f k * 256 ^ k = _
  rw [show (256 : Nat) = 2 ^ 8 from by decide, ← Nat.pow_mul, Nat.mul_comm (f k), Nat.add_comm]
theorem byte_high (x t : Nat) (hx : x < 256) (ht : 8 ≤ t) : x.testBit t = false :=
  Nat.testBit_lt_two_pow (Nat.lt_of_lt_of_le hx (by have := Nat.pow_le_pow_right (show 0 < 2 by decide) ht; simpa using this))
theorem leN_limb (f : Nat → Nat) (k j : Nat) (h : ∀ i, i < k + 1 → f i < 256) : limb j (leN f (k + 1)) = if j = k / 8 then limb j (leN f k) ||| (f k * 2 ^ (8 * (k % 8)) % 18446744073709551616) else limb j (leN f k) := by
  have hk := h k (by omega)
  rw [leN_or f k (fun i hi => h i (by omega))]
  by_cases e : j = k / 8
  · rw [if_pos e]
    apply Nat.eq_of_testBit_eq
    intro t
    rw [Nat.testBit_or, limb_test, limb_test, Nat.testBit_or, Nat.mul_comm (2 ^ (8 * k)), Nat.testBit_mul_two_pow, show (18446744073709551616 : Nat) = 2 ^ 64 from by decide, Nat.testBit_mod_two_pow, Nat.testBit_mul_two_pow]
    by_cases ht : t < 64
    · by_cases h2 : 8 * (k % 8) ≤ t
      · simp [ht, h2, show 8 * k ≤ 64 * j + t from by omega, show 64 * j + t - 8 * k = t - 8 * (k % 8) from by omega, Bool.or_comm]
      · simp [ht, h2, show ¬ 8 * k ≤ 64 * j + t from by omega]
    · simp [ht]
  · rw [if_neg e]
    apply Nat.eq_of_testBit_eq
    intro t
    rw [limb_test, limb_test, Nat.testBit_or, Nat.mul_comm (2 ^ (8 * k)), Nat.testBit_mul_two_pow]
    by_cases ht : t < 64
    · by_cases h2 : 8 * k ≤ 64 * j + t
      · have hb := byte_high (f k) (64 * j + t - 8 * k) hk (by omega)
        simp [ht, hb]
      · simp [ht, h2]
    · simp [ht]
theorem le_or_run (x b t : Nat) (hx : x < 18446744073709551616) : bits BinOp.or IntKind.u64 (x : Int) (IntKind.u64.wrap ((b : Int) * 2 ^ t)) = ((x ||| (b * 2 ^ t % 18446744073709551616) : Nat) : Int) := by
  have h1 : IntKind.u64.wrap ((b : Int) * 2 ^ t) = ((b * 2 ^ t % 18446744073709551616 : Nat) : Int) := by
    have e : (b : Int) * 2 ^ t = ((b * 2 ^ t : Nat) : Int) := by simp
    rw [e, IntKind.wrap_u64]
    generalize b * 2 ^ t = y
    omega
  rw [h1, bits_or_u64_nat _ _ hx (Nat.mod_lt _ (by decide))]

set_option maxHeartbeats 4000000 in
set_option maxRecDepth 20000 in
theorem le_some (a : Addr) (c : Nat) (f : Nat → Nat) (w : World) (hl : a.block < w.heap.size) (hf : ∀ i, i < 32 → f i < 256) (hc : ∀ i, i < 32 → w.cell? (a.add i) = some (.int .u8 ((f i : Nat) : Int))) :
    Calls Tryz.prog 81 #[.slice (some a) 32 c] w fun e w' => e = .returned (.agg #[.int .u64 ((limb 0 (leN f 32) : Nat) : Int), .int .u64 ((limb 1 (leN f 32) : Nat) : Int), .int .u64 ((limb 2 (leN f 32) : Nat) : Int), .int .u64 ((limb 3 (leN f 32) : Nat) : Int)]) ∧ Below w.heap.size w w' := by
  have HC := (show Hid _ from hc); have HF := (show Hid _ from hf)
  clear hc hf
  go_enter Tryz.func81, Tryz.ntmps81
  go_wp2
  go_loopw [8] (fun iv wr => ∃ k : Nat, iv = .int .i64 (k : Int) ∧ k ≤ 32 ∧ Below w.heap.size w wr ∧ Blk wr 24 w.heap.size (fun _ => 0) ∧ Blk wr 24 (w.heap.size + 1) (fun i => limb i (leN f k))) (fun iv _ => 32 - (intOf iv).toNat)
  case atStart =>
    refine ⟨0, rfl, by decide, ?_, (Blk.newAt _ _ _ (fun _ => 0) rfl).alloc _, (Blk.newAt _ _ _ (fun _ => 0) (by simp)).congr (fun i _ => limbz i)⟩
    repeat (first | with_reducible exact Below.refl _ _ | with_reducible refine Below.alloc ?_ (by first | omega | (simp; omega) | simp) _)
  case round =>
    obtain ⟨k, rfl, hk, hbr, bR, bE⟩ := hrel
    by_cases hlt : k < 32
    · have hL := fun j => leN_limb f k j (fun i hi => HF.out i (by omega))
      have HL := (show Hid _ from hL)
      have hv : limb (k / 8) (leN f k) ||| (f k * 2 ^ (8 * (k % 8)) % 18446744073709551616) = limb (k / 8) (leN f (k + 1)) := by rw [hL (k / 8), if_pos rfl]
      have hR := le_or_run (limb (k / 8) (leN f k)) (f k) (8 * (k % 8)) (limb_lt _ _)
      rw [hv] at hR
      clear hL hv
      have cb : wr.cell? (a.add k) = some (.int .u8 ((f k : Nat) : Int)) := by
        rw [hbr.cell (p := a.add k) (by unfold Addr.add; split <;> exact hl)]
        exact HC.out k hlt
      have hfk := HF.out k hlt
      obtain ⟨iv, eiv⟩ : ∃ iv : Int, iv = (k : Int) := ⟨_, rfl⟩
      rw [← eiv]
      have h0 : 0 ≤ iv := by omega
      have h32 : iv < 32 := by omega
      have hq : iv / 8 = ((k / 8 : Nat) : Int) := by omega
      have hr : iv % 8 = ((k % 8 : Nat) : Int) := by omega
      have ht : ((k % 8 : Nat) : Int) * 8 = ((8 * (k % 8) : Nat) : Int) := by omega
      have tN : iv.toNat = k := by omega
      have q4 : k / 8 < 4 := by omega
      have t64 : 8 * (k % 8) < 64 := by omega
      have cE := bE.cell (k / 8) q4; have fE := bE.frozen
      have HIV := (show Hid _ from eiv)
      have wv : IntKind.u64.wrap ((f k : Nat) : Int) = ((f k : Nat) : Int) := by rw [IntKind.wrap_u64]; omega
      obtain ⟨q, eq⟩ : ∃ q, q = k / 8 := ⟨_, rfl⟩
      obtain ⟨r, er⟩ : ∃ r, r = k % 8 := ⟨_, rfl⟩
      have EQ := (show Hid _ from eq)
      rw [← eq] at hR hq q4 cE
      rw [← er] at hR hr ht t64
      obtain ⟨t, et⟩ : ∃ t, t = 8 * r := ⟨_, rfl⟩
      rw [← et] at hR ht t64
      obtain ⟨X, eX⟩ : ∃ X : Int, X = ((limb q (leN f k) : Nat) : Int) := ⟨_, rfl⟩
      rw [← eX] at hR cE
      obtain ⟨B, eB⟩ : ∃ B : Int, B = ((f k : Nat) : Int) := ⟨_, rfl⟩
      rw [← eB] at hR cb wv
      have hB0 : 0 ≤ B := by omega
      have hB1 : B < 256 := by omega
      obtain ⟨Y, eY⟩ : ∃ Y, Y = limb q (leN f (k + 1)) := ⟨_, rfl⟩
      rw [← eY] at hR
      have EY := (show Hid _ from eY)
      clear eiv eq er et eX eB eY hfk
      go_wp2_with fail
      go_region
      go_wp2
      go_roundw
      case measure => rw [HIV.out]; simp [intOf]; omega
      case rel =>
        refine ⟨k + 1, by rw [HIV.out]; go_num, by omega, (hbr.setCell (by dsimp only; omega) _).drew, (bR.other (by dsimp only; omega) _).drew, Blk.drew ((bE.set q q4 Y).congr ?_)⟩
        intro j _
        rw [HL.out j, ← EQ.out]
        by_cases hj : j = q
        · subst hj; rw [if_pos rfl, if_pos rfl, EY.out, HL.out j, if_pos EQ.out]
        · rw [if_neg hj, if_neg hj]
    · have hki : ¬ (k : Int) < 32 := by omega
      have hk32 : k = 32 := by omega
      subst hk32
      clear hlt
      obtain ⟨o, eo⟩ : ∃ o, o = leN f 32 := ⟨_, rfl⟩
      rw [← eo] at bE
      have EO := (show Hid _ from eo)
      clear eo
      have cE := bE.cell; have cr := bR.cell; have fr := bR.frozen
      go_wp2
      refine bodyPost_ret (v := .agg #[.int .u64 ((limb 0 (o) : Nat) : Int), .int .u64 ((limb 1 (o) : Nat) : Int), .int .u64 ((limb 2 (o) : Nat) : Int), .int .u64 ((limb 3 (o) : Nat) : Int)]) (by simp [results, Tryz.results81, go_sem, cr]) rfl ⟨by rw [EO.out], ?_⟩
      repeat (first | with_reducible exact hbr | with_reducible refine Below.setCell ?_ (by first | omega | (simp; omega) | simp) _)

/-- field.littleEndian of 32 bytes. -/
theorem le_any (v : Value) (f : Nat → Nat) (w : World) (h : Bs w v 32 f) (hf : ∀ i, i < 32 → f i < 256) :
    Calls Tryz.prog 81 #[v] w fun e w' => e = .returned (.agg #[.int .u64 ((limb 0 (leN f 32) : Nat) : Int), .int .u64 ((limb 1 (leN f 32) : Nat) : Int), .int .u64 ((limb 2 (leN f 32) : Nat) : Int), .int .u64 ((limb 3 (leN f 32) : Nat) : Int)]) ∧ Below w.heap.size w w' := by
  rcases h with ⟨_, h0⟩ | ⟨a, c, rfl, _, _, hb, hc⟩
  · cases h0
  · exact le_some a c f w hb hf hc
theorem leN_M (f : Nat → Nat) (hf : ∀ i, i < 32 → f i < 256) : leN f 32 < 115792089237316195423570985008687907853269984665640564039457584007913129639936 := leN_lt f 32 hf
/-- What is encoded is the number again. -/
theorem leN_enc (x : Nat) : ∀ k, leN (encB x) k = x % 256 ^ k
  | 0 => by simp [leN, Nat.mod_one]
  | k + 1 => by
    show leN (encB x) k + encB x k * 256 ^ k = _
    rw [leN_enc x k]
    unfold encB
    rw [Nat.pow_succ, Nat.mod_mul, Nat.mul_comm (256 ^ k)]
theorem encB_leN (f : Nat → Nat) (n : Nat) (hf : ∀ i, i < n → f i < 256) : ∀ k, k < n → encB (leN f n) k = f k := by
  induction n with
  | zero => intro k hk; omega
  | succ n ih =>
    intro k hk
    have hlt := leN_lt f n (fun i hi => hf i (by omega))
    unfold encB
    show (leN f n + f n * 256 ^ n) / 256 ^ k % 256 = f k
    rcases Nat.lt_or_ge k n with h | h
    · rw [← ih (fun i hi => hf i (by omega)) k h]
      unfold encB
      obtain ⟨d, rfl⟩ : ∃ d, n = k + 1 + d := ⟨n - (k + 1), by omega⟩
      rw [show f (k + 1 + d) * 256 ^ (k + 1 + d) = 256 ^ k * (256 * (256 ^ d * f (k + 1 + d))) from by rw [Nat.pow_add, Nat.pow_succ, Nat.mul_comm (f (k + 1 + d)), Nat.mul_assoc, Nat.mul_assoc], Nat.add_mul_div_left _ _ (Nat.pow_pos (by decide)), Nat.add_mul_mod_self_left]
    · rw [show k = n from by omega, Nat.mul_comm (f n), Nat.add_mul_div_left _ _ (Nat.pow_pos (by decide)), Nat.div_eq_of_lt hlt, Nat.zero_add, Nat.mod_eq_of_lt (hf n (by omega))]

end Go.Proofs.YthkajdmcmodklaaGreatDoor

/- What field.Decode does. -/
namespace Go.Proofs.YthkajdmcmodklaaGreatDoor
open Go.RowKit

/-- A slice of n bytes by its own length. -/
theorem Bs.cases {w : World} {v : Value} {n : Nat} {f : Nat → Nat} (h : Bs w v n f) : (v = .slice none 0 0 ∧ n = 0) ∨ ∃ (a : Addr) (c : Nat), v = .slice (some a) n c := by
  rcases h with h | ⟨a, c, h, _⟩
  · exact Or.inl h
  · exact Or.inr ⟨a, c, h⟩

set_option maxHeartbeats 4000000 in
set_option maxRecDepth 20000 in
/-- field.Decode of bytes that aren't 32. -/
theorem fDecode_len (s n : Nat) (v : Value) (f : Nat → Nat) (hs : s < 4) (hn : ¬ n = 32) (w : World) (hg : Glob w) (h : Bs w v n f) :
    Calls Tryz.prog 45 #[.int .i64 (s : Int), v] w fun e w' => e = .returned (.tuple #[.agg #[.int .u64 0, .int .u64 0, .int .u64 0, .int .u64 0], .int .i64 21]) ∧ Below w.heap.size w w' := by
  have HM := fun w hg => modulus_any s hs w hg
  obtain ⟨m, em⟩ : ∃ m, m = modN s := ⟨_, rfl⟩
  rw [← em] at HM
  clear em hs
  have h1 : ((n : Int) != 32) = true := by simp; omega
  rcases h.cases with ⟨rfl, rfl⟩ | ⟨a, c, rfl⟩
  all_goals
    clear h hn
    go_enter Tryz.func45, Tryz.ntmps45
    go_wp2_with fail
    obtain ⟨w0, hw0⟩ : ∃ w0 : World, w0 = w.alloc (.cells #[.int .u64 0, .int .u64 0, .int .u64 0, .int .u64 0] 24) := ⟨_, rfl⟩
    have br0 : Blk w0 24 w.heap.size (fun _ => 0) := by rw [hw0]; exact Blk.newAt _ _ _ (fun _ => 0) (by simp)
    have hg0 : Glob w0 := by rw [hw0]; exact hg.alloc _
    have hb0 : Below w.heap.size w w0 := by rw [hw0]; exact (Below.refl _ _).alloc (Nat.le_refl _) _
    rw [← hw0]
    clear hw0 hg
    refine (HM _ hg0).mono ?_
    rintro e w1 ⟨rfl, hb1⟩
    have br1 := br0.belowAll hb1
    have hbw1 := bStep hb0 hb1
    clear br0 hb0 hb1 hg0 HM
    have br2 := br1.alloc (.cells #[.int .u64 ((limb 0 (m) : Nat) : Int), .int .u64 ((limb 1 (m) : Nat) : Int), .int .u64 ((limb 2 (m) : Nat) : Int), .int .u64 ((limb 3 (m) : Nat) : Int)] 63)
    have hbw2 := bAlloc hbw1 (.cells #[.int .u64 ((limb 0 (m) : Nat) : Int), .int .u64 ((limb 1 (m) : Nat) : Int), .int .u64 ((limb 2 (m) : Nat) : Int), .int .u64 ((limb 3 (m) : Nat) : Int)] 63)
    go_upto_region 4 with fail
    obtain ⟨w2, hw2⟩ : ∃ w2 : World, w2 = w1.alloc (.cells #[.int .u64 ((limb 0 (m) : Nat) : Int), .int .u64 ((limb 1 (m) : Nat) : Int), .int .u64 ((limb 2 (m) : Nat) : Int), .int .u64 ((limb 3 (m) : Nat) : Int)] 63) := ⟨_, rfl⟩
    rw [← hw2] at br2 hbw2 ⊢
    clear hw2 br1 hbw1
    have cr := br2.cell; have fr := br2.frozen; have lr := br2.lt
    go_wp2
    refine bodyPost_ret (v := .tuple #[.agg #[.int .u64 0, .int .u64 0, .int .u64 0, .int .u64 0], .int .i64 21]) (by simp [results, Tryz.results45, go_sem, cr]) rfl ⟨rfl, ?_⟩
    repeat (first | with_reducible exact hbw2 | with_reducible refine Below.setCell ?_ (by first | omega | (simp; omega) | simp) _)

/-- What is answered for a number: it, where it is below the modulus. -/
def decV (m x : Nat) : Value := if x < m then .tuple #[.agg #[.int .u64 ((limb 0 (x) : Nat) : Int), .int .u64 ((limb 1 (x) : Nat) : Int), .int .u64 ((limb 2 (x) : Nat) : Int), .int .u64 ((limb 3 (x) : Nat) : Int)], .int .i64 0] else .tuple #[.agg #[.int .u64 0, .int .u64 0, .int .u64 0, .int .u64 0], .int .i64 21]

set_option maxHeartbeats 8000000 in
set_option maxRecDepth 20000 in
/-- field.Decode of 32 bytes. -/
theorem fDecode_32 (s : Nat) (v : Value) (f : Nat → Nat) (hs : s < 4) (w : World) (hg : Glob w) (h : Bs w v 32 f) (hf : ∀ i, i < 32 → f i < 256) :
    Calls Tryz.prog 45 #[.int .i64 (s : Int), v] w fun e w' => e = .returned (decV (modN s) (leN f 32)) ∧ Below w.heap.size w w' := by
  have HM := fun w hg => modulus_any s hs w hg
  have hm := (modN_good s).lt.2.2
  obtain ⟨m, em⟩ : ∃ m, m = modN s := ⟨_, rfl⟩
  rw [← em] at HM hm ⊢
  clear em hs
  have lx := leN_M f hf
  have LE := fun w (h : Bs w v 32 f) => le_any v f w h hf
  obtain ⟨x, ex⟩ : ∃ x, x = leN f 32 := ⟨_, rfl⟩
  rw [← ex] at lx LE ⊢
  clear ex hf
  have NO := fun w => numberOf_any x w
  have IB := fun w => isBelow_any x m lx hm w
  have HB := (show Hid (Bs w v 32 f) from h)
  rcases h.cases with ⟨_, h0⟩ | ⟨a, c, rfl⟩
  · cases h0
  · clear h
    go_enter Tryz.func45, Tryz.ntmps45
    go_wp2_with fail
    obtain ⟨w0, hw0⟩ : ∃ w0 : World, w0 = w.alloc (.cells #[.int .u64 0, .int .u64 0, .int .u64 0, .int .u64 0] 24) := ⟨_, rfl⟩
    have br0 : Blk w0 24 w.heap.size (fun _ => 0) := by rw [hw0]; exact Blk.newAt _ _ _ (fun _ => 0) (by simp)
    have hg0 : Glob w0 := by rw [hw0]; exact hg.alloc _
    have hb0 : Below w.heap.size w w0 := by rw [hw0]; exact (Below.refl _ _).alloc (Nat.le_refl _) _
    rw [← hw0]
    clear hw0 hg
    refine (HM _ hg0).mono ?_
    rintro e w1 ⟨rfl, hb1⟩
    have br1 := br0.belowAll hb1
    have hbw1 := bStep hb0 hb1
    have lr1 := br1.lt
    clear br0 hb0 hb1 hg0 HM
    obtain ⟨w2, hw2⟩ : ∃ w2 : World, w2 = w1.alloc (.cells #[.int .u64 ((limb 0 (m) : Nat) : Int), .int .u64 ((limb 1 (m) : Nat) : Int), .int .u64 ((limb 2 (m) : Nat) : Int), .int .u64 ((limb 3 (m) : Nat) : Int)] 63) := ⟨_, rfl⟩
    have br2 : Blk w2 24 w.heap.size (fun _ => 0) := by rw [hw2]; exact br1.alloc _
    have bm2 : Blk w2 63 w1.heap.size (fun i => limb i m) := by rw [hw2]; exact Blk.new w1 _ (fun i => limb i m)
    have hbw2 : Below w.heap.size w w2 := by rw [hw2]; exact bAlloc hbw1 _
    have hB2 : Bs w2 (.slice (some a) 32 c) 32 f := HB.out.below hbw2
    go_upto_region 4 with fail
    rw [← hw2]
    clear hw2 br1 hbw1
    go_wp2_with fail
    refine (LE _ hB2).mono ?_
    rintro e w3 ⟨rfl, hb3⟩
    have br3 := br2.belowAll hb3; have bm3 := bm2.belowAll hb3
    have hbw3 := bStep hbw2 hb3
    have lm3 := bm3.lt
    clear br2 bm2 hbw2 hb3 LE hB2 HB
    obtain ⟨N8, e8⟩ : ∃ N8, N8 = w3.heap.size := ⟨_, rfl⟩
    obtain ⟨w4, hw4⟩ : ∃ w4 : World, w4 = w3.alloc (.cells #[.int .u64 ((limb 0 (x) : Nat) : Int), .int .u64 ((limb 1 (x) : Nat) : Int), .int .u64 ((limb 2 (x) : Nat) : Int), .int .u64 ((limb 3 (x) : Nat) : Int)] 24) := ⟨_, rfl⟩
    have br4 : Blk w4 24 w.heap.size (fun _ => 0) := by rw [hw4]; exact br3.alloc _
    have bm4 : Blk w4 63 w1.heap.size (fun i => limb i m) := by rw [hw4]; exact bm3.alloc _
    have bx4 : Blk w4 24 N8 (fun i => limb i x) := by rw [hw4]; exact Blk.newAt _ _ _ (fun i => limb i x) e8
    have hbw4 : Below w.heap.size w w4 := by rw [hw4]; exact bAlloc hbw3 _
    go_upto_region 7 with fail
    rw [← hw4, ← e8]
    have l8 : w.heap.size < N8 := by have := br3.lt; omega
    clear hw4 br3 bm3 hbw3 e8
    by_cases hlt : x < m
    · rw [show below256 x m = true from by simp [below256, hlt]] at IB
      have EV : Hid (decV m x = .tuple #[.agg #[.int .u64 ((limb 0 (x) : Nat) : Int), .int .u64 ((limb 1 (x) : Nat) : Int), .int .u64 ((limb 2 (x) : Nat) : Int), .int .u64 ((limb 3 (x) : Nat) : Int)], .int .i64 0]) := if_pos hlt
      clear hlt
      go_wp2_with fail
      go_region_held3 (fun w' => (∀ i, i < 4 → w'.cell? ⟨N8, i, none⟩ = some (.int .u64 ((limb i x : Nat) : Int))) ∧ (∀ i, i < 4 → w'.cell? ⟨w1.heap.size, i, none⟩ = some (.int .u64 ((limb i m : Nat) : Int))))
        (first | with_reducible exact hold2 hbB (by with_reducible assumption) | with_reducible exact hold2 hbA (by with_reducible assumption) | with_reducible exact ⟨bx4.drew.cell, bm4.drew.cell⟩)
        (first | (go_at_call 83; with_reducible refine (NO _).mono ?_; rintro e wA ⟨rfl, hbA⟩) | (go_at_call 82; with_reducible refine (IB _).mono ?_; rintro e w5 ⟨rfl, hbB⟩) | fail)
      have br5 := (br4.drew.belowAll hbA).belowAll hbB; have bx5 := (bx4.drew.belowAll hbA).belowAll hbB
      have hbw5 := bStep (bStep hbw4.drew hbA) hbB
      clear br4 bm4 bx4 hbw4 hbA hbB
      have cx := bx5.cell; have cr := br5.cell; have fr := br5.frozen; have lr := br5.lt
      go_wp2
      refine bodyPost_ret (v := .tuple #[.agg #[.int .u64 ((limb 0 (x) : Nat) : Int), .int .u64 ((limb 1 (x) : Nat) : Int), .int .u64 ((limb 2 (x) : Nat) : Int), .int .u64 ((limb 3 (x) : Nat) : Int)], .int .i64 0]) (by simp [results, Tryz.results45, go_sem, cr]) rfl ⟨by rw [EV.out], ?_⟩
      repeat (first | with_reducible exact hbw5 | with_reducible refine Below.setCell ?_ (by first | omega | (simp; omega) | simp) _)
    · rw [show below256 x m = false from by simp [below256]; omega] at IB
      have EV : Hid (decV m x = .tuple #[.agg #[.int .u64 0, .int .u64 0, .int .u64 0, .int .u64 0], .int .i64 21]) := if_neg hlt
      clear hlt
      go_wp2_with fail
      go_region_held3 (fun w' => (∀ i, i < 4 → w'.cell? ⟨N8, i, none⟩ = some (.int .u64 ((limb i x : Nat) : Int))) ∧ (∀ i, i < 4 → w'.cell? ⟨w1.heap.size, i, none⟩ = some (.int .u64 ((limb i m : Nat) : Int))))
        (first | with_reducible exact hold2 hbB (by with_reducible assumption) | with_reducible exact hold2 hbA (by with_reducible assumption) | with_reducible exact ⟨bx4.drew.cell, bm4.drew.cell⟩)
        (first | (go_at_call 83; with_reducible refine (NO _).mono ?_; rintro e wA ⟨rfl, hbA⟩) | (go_at_call 82; with_reducible refine (IB _).mono ?_; rintro e w5 ⟨rfl, hbB⟩) | fail)
      have br5 := (br4.drew.belowAll hbA).belowAll hbB
      have hbw5 := bStep (bStep hbw4.drew hbA) hbB
      clear br4 bm4 bx4 hbw4 hbA hbB
      have cr := br5.cell; have fr := br5.frozen; have lr := br5.lt
      go_wp2
      refine bodyPost_ret (v := .tuple #[.agg #[.int .u64 0, .int .u64 0, .int .u64 0, .int .u64 0], .int .i64 21]) (by simp [results, Tryz.results45, go_sem, cr]) rfl ⟨by rw [EV.out], ?_⟩
      repeat (first | with_reducible exact hbw5 | with_reducible refine Below.setCell ?_ (by first | omega | (simp; omega) | simp) _)

end Go.Proofs.YthkajdmcmodklaaGreatDoor

