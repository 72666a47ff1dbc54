/- Slices of bytes: what SameBytes does. -/
import Derived.Test.YtcaljepfinfkbaaDoorBA
import Derived.Test.YtcaljepfinfkbaaDoorChecked
import Derived.LoopN
import Derived.Deep.QuietTactic
import Derived.BigQuiet
import Derived.Deep.Draws
import Derived.OwnWalk
import Derived.Laws.AppendOwnNone
import Derived.Test.YtcaljepfinfkbaaDoorFD
import Derived.Laws.MakeOwn
namespace Go.Proofs.YtcaljepfinfkbaaDoor
open Go.RowKit

/-- v is a slice of n bytes, f 0 and on. -/
def Bs (w : World) (v : Value) (n : Nat) (f : Nat → Nat) : Prop :=
  (v = .slice none 0 0 ∧ n = 0) ∨ ∃ (a : Addr) (c : Nat), v = .slice (some a) n c ∧ n ≤ c ∧ c ≤ maxLen ∧ a.block < w.heap.size ∧ ∀ i, i < n → w.cell? (a.add i) = some (.int .u8 ((f i : Nat) : Int))
/-- The first n bytes are the same. -/
def sameB (f g : Nat → Nat) (n : Nat) : Bool := decide (∀ i, i < n → f i = g i)

theorem drewN_drewN (w : World) (i j : Nat) : (w.drewN i).drewN j = w.drewN (i + j) := World.drewN_drewN w i j

theorem Bs.below {w w' : World} {v : Value} {n : Nat} {f : Nat → Nat} (h : Bs w v n f) (hb : Below w.heap.size w w') : Bs w' v n f := by
  rcases h with h | ⟨a, c, hv, h1, h2, h3, h4⟩
  · exact Or.inl h
  · refine Or.inr ⟨a, c, hv, h1, h2, Nat.lt_of_lt_of_le h3 hb.size, fun i hi => ?_⟩
    rw [hb.cell (p := a.add i) (by unfold Addr.add; split <;> exact h3)]
    exact h4 i hi
end Go.Proofs.YtcaljepfinfkbaaDoor

/- Slices of bytes: what CopyBytes does. -/
namespace Go.Proofs.YtcaljepfinfkbaaDoor
open Go.RowKit

def bys (f : Nat → Nat) (n : Nat) : List Value := (List.range n).map (fun i => Value.int .u8 ((f i : Nat) : Int))
theorem bys_get (f : Nat → Nat) (n i : Nat) (h : i < n) : (bys f n)[i]? = some (.int .u8 ((f i : Nat) : Int)) := by simp [bys, h]
theorem bys_len (f : Nat → Nat) (n : Nat) : (bys f n).length = n := by simp [bys]
theorem byteInfo : ∃ i : TypeInfo, Tryd.prog.info? 5 = some i ∧ i.zero = some (.int .u8 0) ∧ i.size = 1 ∧ i.bytes = 1 := by
  have h : (Tryd.prog.info? 5).map (fun i => (i.zero, i.size, i.bytes)) = some (some (.int .u8 0), 1, 1) := by kernel_rfl
  obtain ⟨i, hi, he⟩ := Option.map_eq_some_iff.mp h
  simp only [Prod.mk.injEq] at he
  exact ⟨i, hi, he.1, he.2.1, he.2.2⟩
theorem new_block' (w : World) (o : Obj) : (w.alloc o).heap[w.heap.size]? = some o := by
  show (w.heap.push o)[w.heap.size]? = _; simp
theorem own_block_ge' {w : World} {base : Nat} {e : TypeId} {size : Nat} {v : Value} {n : Nat} {xs : List Value} (h : w.ownsRow base e size v n xs) {j : Nat} (hj : v.ownBlock = some j) : base ≤ j := by
  obtain ⟨_, h⟩ := h
  rcases h with ⟨rfl, _⟩ | ⟨g, c, cur, rfl, hb, _⟩
  · simp [Value.ownBlock] at hj
  · simp [Value.ownBlock] at hj; omega

/-- A slice of the call's own, as bytes. -/
theorem own_Bs {w : World} {base n : Nat} {v : Value} {f : Nat → Nat} (h : w.ownsRow base 5 1 v n (bys f n)) : Bs w v n f := by
  obtain ⟨_, h⟩ := h
  rcases h with ⟨rfl, h0⟩ | ⟨g, c, cur, rfl, hb, hg, hc, hm, hs, ht⟩
  · exact Or.inl ⟨rfl, h0⟩
  · refine Or.inr ⟨⟨g, 0, none⟩, c, rfl, hc, hm, ?_, fun i hi => ?_⟩
    · rcases Nat.lt_or_ge g w.heap.size with hl | hl
      · exact hl
      · rw [Array.getElem?_eq_none hl] at hg; cases hg
    · have h1 : cur[i]? = (bys f n)[i]? := by rw [← ht]; simp [hi]
      rw [bys_get f n i hi] at h1
      have hadd : (⟨g, 0, none⟩ : Addr).add i = ⟨g, i, none⟩ := by unfold Addr.add; split <;> simp_all
      rw [hadd]
      simp [World.cell?, hg, h1]
end Go.Proofs.YtcaljepfinfkbaaDoor

/- Blocks of bytes; what field.Encode does. -/
namespace Go.Proofs.YtcaljepfinfkbaaDoor
open Go.RowKit

/-- Block b is an array of n bytes, f 0 and on. -/
def BlkB (w : World) (t : TypeId) (b n : Nat) (f : Nat → Nat) : Prop :=
  ∃ c : Array Value, w.heap[b]? = some (.cells c t) ∧ c.size = n ∧ ∀ i, i < n → c[i]? = some (.int .u8 ((f i : Nat) : Int))
section
variable {w w' : World} {t : TypeId} {b n : Nat} {f g : Nat → Nat}
theorem BlkB.lt (h : BlkB w t b n f) : b < w.heap.size := by
  obtain ⟨c, hc, _⟩ := h
  rcases Nat.lt_or_ge b w.heap.size with hl | hl
  · exact hl
  · rw [Array.getElem?_eq_none hl] at hc; cases hc
theorem BlkB.cell (h : BlkB w t b n f) : ∀ i, i < n → w.cell? ⟨b, i, none⟩ = some (.int .u8 ((f i : Nat) : Int)) := by
  obtain ⟨c, hc, hs, hf⟩ := h
  intro i hi
  simp [World.cell?, hc, hf i hi]
theorem BlkB.frozen (h : BlkB w t b n f) : ∀ o, w.frozen? ⟨b, o, none⟩ = false := by
  obtain ⟨c, hc, _⟩ := h
  intro o
  simp [World.frozen?, hc]
theorem BlkB.below {m : Nat} (h : BlkB w t b n f) (hb : Below m w w') (hm : b < m) : BlkB w' t b n f := by
  obtain ⟨c, hc, hs⟩ := h
  exact ⟨c, by rw [hb.block b hm]; exact hc, hs⟩
theorem BlkB.belowAll (h : BlkB w t b n f) (hb : Below w.heap.size w w') : BlkB w' t b n f := h.below hb h.lt
theorem BlkB.drew (h : BlkB w t b n f) : BlkB w.drew t b n f := h
theorem BlkB.alloc (h : BlkB w t b n f) (o : Obj) : BlkB (w.alloc o) t b n f := h.below ((Below.refl _ _).alloc (Nat.le_refl _) o) h.lt
theorem BlkB.newAt (w : World) (t : TypeId) (b n : Nat) (f : Nat → Nat) (c : Array Value) (hb : b = w.heap.size) (hs : c.size = n) (hf : ∀ i, i < n → c[i]? = some (.int .u8 ((f i : Nat) : Int))) : BlkB (w.alloc (.cells c t)) t b n f :=
  ⟨c, by subst hb; show (w.heap.push _)[w.heap.size]? = _; simp, hs, hf⟩
theorem BlkB.other (h : BlkB w t b n f) {a : Addr} (ha : b ≠ a.block) (v : Value) : BlkB (w.setCell a v) t b n f := by
  obtain ⟨c, hc, hs⟩ := h
  exact ⟨c, by rw [Below.heap_setCell w a v b ha]; exact hc, hs⟩
theorem BlkB.congr (h : BlkB w t b n f) (hg : ∀ i, i < n → g i = f i) : BlkB w t b n g := by
  obtain ⟨c, hc, hs, hf⟩ := h
  exact ⟨c, hc, hs, fun i hi => by rw [hf i hi, hg i hi]⟩
theorem BlkB.set (h : BlkB w t b n f) (k : Nat) (hk : k < n) (v : Nat) : BlkB (w.setCell ⟨b, k, none⟩ (.int .u8 ((v : Nat) : Int))) t b n (fun i => if i = k then v else f i) := by
  obtain ⟨c, hc, hs, hf⟩ := h
  refine ⟨c.setIfInBounds k (.int .u8 ((v : Nat) : Int)), ?_, by simp [hs], ?_⟩
  · simp [World.setCell, Array.getElem?_modify, hc]
  · intro i hi
    by_cases e : i = k
    · subst e; simp [hs, hi]
    · simp [e, Ne.symm (fun h => e h), hf i hi]
end


theorem own_blkB {w : World} {base g n : Nat} {e : TypeId} {xs : List Value} {f : Nat → Nat} (h : w.ownsRow base e 1 (.slice (some ⟨g, 0, none⟩) n n) n xs) (hf : ∀ i, i < n → xs[i]? = some (.int .u8 ((f i : Nat) : Int))) (hn : 0 < n) : BlkB w e g n f ∧ base ≤ g := by
  obtain ⟨hl, h⟩ := h
  rcases h with ⟨h0, h1⟩ | ⟨g', c, cur, h1, hb, hg, hc, _, hs, ht⟩
  · omega
  · cases h1
    refine ⟨⟨cur, hg, by omega, ?_⟩, hb⟩
    intro i hi
    rw [← hf i hi, ← ht]
    simp [hi]

/-- The bytes of a number, the least first. -/
def encB (x i : Nat) : Nat := x / 256 ^ i % 256
theorem encB_limb (x i : Nat) : limb (i / 8) x / 2 ^ (8 * (i % 8)) % 256 = encB x i := by
  unfold encB
  apply Nat.eq_of_testBit_eq
  intro t
  rw [show (256 : Nat) = 2 ^ 8 from by decide, ← Nat.pow_mul, Nat.testBit_mod_two_pow, Nat.testBit_mod_two_pow, Nat.testBit_div_two_pow, Nat.testBit_div_two_pow, limb_test]
  by_cases h : t < 8
  · simp [h, show t + 8 * (i % 8) < 64 from by omega]
    congr 1; omega
  · simp [h]
theorem enc_run (x q t : Nat) (hx : q / 2 ^ t % 256 = x) : IntKind.u8.wrap ((q : Int) / 2 ^ t) = (x : Int) := by
  have e : (q : Int) / 2 ^ t = ((q / 2 ^ t : Nat) : Int) := by simp
  rw [e, IntKind.wrap_u8, ← hx]
  generalize q / 2 ^ t = y
  omega

set_option maxHeartbeats 4000000 in
set_option maxRecDepth 20000 in
theorem fEncode_any (s a : Nat) (hs : s < 4) (ha : a < 115792089237316195423570985008687907853269984665640564039457584007913129639936) (w : World) (hg : Glob w) :
    Calls Tryd.prog 15 #[.int .i64 (s : Int), .agg #[.int .u64 ((limb 0 (a) : Nat) : Int), .int .u64 ((limb 1 (a) : Nat) : Int), .int .u64 ((limb 2 (a) : Nat) : Int), .int .u64 ((limb 3 (a) : Nat) : Int)]] w fun e w' => ∃ g, e = .returned (.slice (some ⟨g, 0, none⟩) 32 32) ∧ w.heap.size ≤ g ∧ BlkB w' 5 g 32 (encB (a % modN s)) ∧ Below w.heap.size w w' := by
  obtain ⟨i0, hi, hz0, hz1, hz2⟩ := byteInfo
  have HI := (show Hid _ from hi); have HZ := (show Hid _ from And.intro hz0 (And.intro hz1 hz2)); clear hi hz0 hz1 hz2
  have hgl := (modN_good s).lt
  have HM := fun w hg => modulus_any s hs w hg
  obtain ⟨m, em⟩ : ∃ m, m = modN s := ⟨_, rfl⟩
  rw [← em] at hgl HM ⊢
  clear em
  have EA := fun w => element_any m a hgl.1 hgl.2.2 ha w
  obtain ⟨x, ex⟩ : ∃ x, x = a % m := ⟨_, rfl⟩
  rw [← ex] at EA ⊢
  clear ex hgl
  have TE := fun w => toElem_any x w
  go_enter Tryd.func15, Tryd.ntmps15
  go_wp2_with fail
  obtain ⟨w0, hw0⟩ : ∃ w0 : World, w0 = w.alloc (.cells #[.int .u64 ((limb 0 (a) : Nat) : Int), .int .u64 ((limb 1 (a) : Nat) : Int), .int .u64 ((limb 2 (a) : Nat) : Int), .int .u64 ((limb 3 (a) : Nat) : Int)] 29) := ⟨_, rfl⟩
  have ba0 : Blk w0 29 w.heap.size (fun i => limb i a) := by rw [hw0]; exact Blk.newAt _ _ _ (fun i => limb i a) (by simp)
  have hb0 : Below w.heap.size w w0 := by rw [hw0]; exact (Below.refl _ _).alloc (Nat.le_refl _) _
  have hg0 : Glob w0 := by rw [hw0]; exact hg.alloc _
  rw [← hw0]
  clear hw0 hg
  refine (HM _ hg0).mono ?_
  rintro e w1 ⟨rfl, hb1⟩
  have ba1 := ba0.belowAll hb1
  have hbw1 := bStep hb0 hb1
  have la := ba1.lt
  clear ba0 hb0 hb1 hg0 HM
  have ca := ba1.cell
  obtain ⟨hA, hG⟩ := acell (w := w1) (n := w1.heap.size) (Nat.le_refl _)
  go_wp2_with fail
  refine (EA _).mono ?_
  rintro e w2 ⟨rfl, hb2⟩
  have hbw2 := bStep (bAlloc hbw1 _) hb2
  clear ba1 hbw1 hb2 ca hA hG la EA
  go_wp2_with fail
  refine (TE _).mono ?_
  rintro e w3 ⟨rfl, hb3⟩
  have hbw3 := bStep hbw2 hb3
  clear hbw2 hb3 TE
  go_upto_region 5 with fail
  obtain ⟨w4, hw4⟩ : ∃ w4 : World, w4 = w3.alloc (.cells #[.int .u64 ((limb 0 (x) : Nat) : Int), .int .u64 ((limb 1 (x) : Nat) : Int), .int .u64 ((limb 2 (x) : Nat) : Int), .int .u64 ((limb 3 (x) : Nat) : Int)] 29) := ⟨_, rfl⟩
  have bx4 : Blk w4 29 w3.heap.size (fun i => limb i x) := by rw [hw4]; exact Blk.new w3 _ (fun i => limb i x)
  have hbw4 : Below w.heap.size w w4 := by rw [hw4]; exact bAlloc hbw3 _
  have l3 := hbw3.size
  rw [← hw4]
  clear hw4 hbw3
  go_wp2_with (first
    | (at_make; refine wpList_make_full _ rfl _ _ 43 rfl w4.heap.size 5 i0 (.int .u8 0) 1 Tryd.underlying43 HI.out HZ.out.1 HZ.out.2.1 .i64 .i64 32 32 32 rfl rfl rfl rfl ?c1 (by decide) (Nat.le_refl _) ?_)
    | go_in)
  case c1 => rw [HZ.out.2.2]; decide
  intro w5 hown hgrow
  obtain ⟨bS, _⟩ := own_blkB (f := fun _ => 0) hown (by intro i hi; simp [madeCells]; exact ⟨i, by simp [hi], by rw [Nat.mod_one]; rfl⟩) (by decide)
  have hbe : Below w4.heap.size w4 w5 := (Below.refl _ w4).grown hgrow (Nat.le_refl _) (fun j hj => by cases hj)
  have hz4 := bx4.lt
  have l4 := hbw4.size
  have bx5 := bx4.belowAll hbe
  have hbw5 := bStep hbw4 hbe
  clear hown hgrow bx4 hbw4 hbe
  obtain ⟨G, eG⟩ : ∃ G, G = w4.heap.size := ⟨_, rfl⟩
  rw [← eG] at bS hz4 l4
  have hEG := (show Hid _ from eG)
  rw [← eG]
  clear eG
  go_wp2
  go_loopw [24] (fun iv wr => ∃ k : Nat, iv = .int .i64 (k : Int) ∧ k ≤ 32 ∧ Below w.heap.size w wr ∧ Blk wr 29 w3.heap.size (fun i => limb i x) ∧ BlkB wr 5 G 32 (fun j => if j < k then encB x j else 0)) (fun iv _ => 32 - (intOf iv).toNat)
  case atStart => exact ⟨0, rfl, by decide, hbw5, bx5, bS.congr (fun i _ => by simp)⟩
  case round =>
    obtain ⟨k, rfl, hk, hbr, bx, bG⟩ := hrel
    clear bx5 bS hbw5
    by_cases hlt : k < 32
    · have hR := enc_run (encB x k) (limb (k / 8) x) (8 * (k % 8)) (encB_limb x k)
      obtain ⟨iv, eiv⟩ : ∃ iv : Int, iv = (k : Int) := ⟨_, rfl⟩
      rw [← eiv]
      have h0 : 0 ≤ iv := by omega
      have h32 : iv < 32 := by omega
      have hq : iv / 8 = ((k / 8 : Nat) : Int) := by omega
      have hr : iv % 8 = ((k % 8 : Nat) : Int) := by omega
      have ht : ((k % 8 : Nat) : Int) * 8 = ((8 * (k % 8) : Nat) : Int) := by omega
      have tN : iv.toNat = k := by omega
      have q4 : k / 8 < 4 := by omega
      have t64 : 8 * (k % 8) < 64 := by omega
      have cx := bx.cell (k / 8) q4
      have cG := bG.cell k hlt; have fG := bG.frozen
      have HIV := (show Hid _ from eiv)
      obtain ⟨q, eq⟩ : ∃ q, q = k / 8 := ⟨_, rfl⟩
      obtain ⟨r, er⟩ : ∃ r, r = k % 8 := ⟨_, rfl⟩
      rw [← eq] at hR hq q4 cx
      rw [← er] at hR hr ht t64
      obtain ⟨t, et⟩ : ∃ t, t = 8 * r := ⟨_, rfl⟩
      rw [← et] at hR ht t64
      obtain ⟨X, eX⟩ : ∃ X : Int, X = ((limb q x : Nat) : Int) := ⟨_, rfl⟩
      rw [← eX] at hR cx
      obtain ⟨b, eb⟩ : ∃ b, b = encB x k := ⟨_, rfl⟩
      rw [← eb] at hR
      have EB := (show Hid _ from eb)
      clear eiv eq er et eX eb
      go_wp2
      go_roundw
      case measure => rw [HIV.out]; simp [intOf]; omega
      case rel =>
        refine ⟨k + 1, by rw [HIV.out]; go_num, by omega, hbr.setCell (by dsimp only; omega) _, bx.other (by dsimp only; omega) _, (bG.set k hlt b).congr ?_⟩
        intro j _
        by_cases hj : j = k
        · subst hj; simp [EB.out]
        · by_cases hj2 : j < k
          · simp [hj, hj2, show j < k + 1 from by omega]
          · simp [hj, hj2, show ¬ j < k + 1 from by omega]
    · have hki : ¬ (k : Int) < 32 := by omega
      have hk32 : k = 32 := by omega
      have bF := bG.congr (g := encB x) (fun i hi => by rw [if_pos (by omega)])
      clear bG hlt
      go_wp2
      go_ret
      exact ⟨G, rfl, by omega, bF, hbr⟩

end Go.Proofs.YtcaljepfinfkbaaDoor

