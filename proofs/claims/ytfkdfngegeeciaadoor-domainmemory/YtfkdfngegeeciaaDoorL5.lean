/- What Marked does. -/
import Derived.Test.YtfkdfngegeeciaaDoorL2
import Derived.ArgAppend
namespace Go.Proofs.YtfkdfngegeeciaaDoor
open Go.RowKit

/-- All blocks but g are as they were. -/
def Kept (g : Nat) (w w' : World) : Prop :=
  w'.os = w.os ∧ w'.tape = w.tape ∧ w'.output = w.output ∧ w.heap.size ≤ w'.heap.size ∧ ∀ k, k < w.heap.size → k ≠ g → w'.heap[k]? = w.heap[k]?
theorem Kept.os {g : Nat} {w w' : World} (h : Kept g w w') : w'.os = w.os := h.1
theorem Kept.tape {g : Nat} {w w' : World} (h : Kept g w w') : w'.tape = w.tape := h.2.1
theorem Kept.output {g : Nat} {w w' : World} (h : Kept g w w') : w'.output = w.output := h.2.2.1
theorem Kept.size {g : Nat} {w w' : World} (h : Kept g w w') : w.heap.size ≤ w'.heap.size := h.2.2.2.1
theorem Kept.block {g : Nat} {w w' : World} (h : Kept g w w') : ∀ k, k < w.heap.size → k ≠ g → w'.heap[k]? = w.heap[k]? := h.2.2.2.2
theorem Kept.refl (g : Nat) (w : World) : Kept g w w := ⟨rfl, rfl, rfl, Nat.le_refl _, fun _ _ _ => rfl⟩
theorem Kept.trans {g : Nat} {a b c : World} (h : Kept g a b) (k : Kept g b c) : Kept g a c :=
  ⟨k.os.trans h.os, k.tape.trans h.tape, k.output.trans h.output, Nat.le_trans h.size k.size, fun i hi hg => (k.block i (Nat.lt_of_lt_of_le hi h.size) hg).trans (h.block i hi hg)⟩
theorem Kept.setCell {g : Nat} {a w : World} (h : Kept g a w) (o : Nat) (u : Value) : Kept g a (w.setCell ⟨g, o, none⟩ u) :=
  h.trans ⟨rfl, rfl, rfl, by simp [World.setCell], fun k _ hk => Below.heap_setCell w ⟨g, o, none⟩ u k hk⟩
theorem Kept.alloc {g : Nat} {a w : World} (h : Kept g a w) (o : Obj) : Kept g a (w.alloc o) :=
  h.trans ⟨rfl, rfl, rfl, by simp, fun k hk _ => ((Below.refl w.heap.size w).alloc (Nat.le_refl _) o).block k hk⟩
theorem Kept.grown {g : Nat} {a w w' : World} {row : Option Nat} (h : Kept g a w) (hg : w.grownBy w' row) (hr : ∀ k, row = some k → a.heap.size ≤ k) : Kept g a w' :=
  ⟨hg.os.trans h.os, hg.tape.trans h.tape, hg.output.trans h.output, Nat.le_trans h.size hg.size, fun k hk hkg => by
    rw [hg.block k (Nat.lt_of_lt_of_le hk h.size) (fun e => by have := hr k e.symm; omega)]
    exact h.block k hk hkg⟩
theorem Kept.below {g m : Nat} {w w' : World} (h : Kept g w w') (hm : m ≤ g) (hs : m ≤ w.heap.size) : Below m w w' :=
  ⟨h.os, h.tape, h.output, h.size, fun k hk => h.block k (by omega) (by omega)⟩

set_option maxHeartbeats 8000000 in
set_option maxRecDepth 20000 in
theorem marked_any (n g : Nat) (f : Nat → Nat) (hn : n ≤ 1000) (w : World) (h : BlkE w g n f) :
    Calls Tryd.prog 27 #[.slice (some ⟨g, 0, none⟩) n n] w fun e w' => e = .returned (.bool true) ∧ Kept g w w' := by
  obtain ⟨i0, hi, hz0, hz1, hz2⟩ := elemInfo
  have HI := (show Hid _ from hi); have HZ := (show Hid _ from And.intro hz0 (And.intro hz1 hz2)); clear hi hz0 hz1 hz2
  have hgl := h.lt
  go_enter Tryd.func27, Tryd.ntmps27
  go_wp2
  go_loopw [3] (fun iv wr => ∃ (k : Nat) (f : Nat → Nat), iv = .int .i64 (k : Int) ∧ k ≤ n ∧ Kept g w wr ∧ BlkE wr g n f) (fun iv _ => n - (intOf iv).toNat)
  case atStart => exact ⟨0, f, rfl, Nat.zero_le _, Kept.refl _ _, h⟩
  case round =>
    obtain ⟨k, f, rfl, hk, hK, bo⟩ := hrel
    clear h
    by_cases hlt : k < n
    · have hki : (k : Int) < (n : Int) := by omega
      have o0 := bo.cell k hlt 0 (by decide); have o1 := bo.cell k hlt 1 (by decide); have o2 := bo.cell k hlt 2 (by decide); have o3 := bo.cell k hlt 3 (by decide)
      rw [Nat.add_zero] at o0
      have fo := bo.frozen
      have e77 : ∃ x : Nat, limb 0 x = 77 ∧ limb 1 x = 77 ∧ limb 2 x = 77 ∧ limb 3 x = 77 := by
        have g := limbs_of 77 77 77 77 (by decide) (by decide) (by decide) (by decide) _ rfl
        exact ⟨_, g.1.symm, g.2.1.symm, g.2.2.1.symm, g.2.2.2.1.symm⟩
      obtain ⟨x, x0, x1, x2, x3⟩ := e77
      have bS := bo.setE k hlt x
      rw [x0, x1, x2, x3] at bS
      have HS := (show Hid _ from bS)
      clear bS x0 x1 x2 x3
      go_wp2
      go_roundw
      case measure => simp [intOf]; omega
      case rel => exact ⟨k + 1, _, by go_num, by omega, (((hK.setCell _ _).setCell _ _).setCell _ _).setCell _ _, HS.out⟩
    · have hki : ¬ (k : Int) < (n : Int) := by omega
      clear hlt
      go_wp2
      go_loopw [0, 4] (fun sv iv wr => ∃ k : Nat, iv = .int .i64 (k : Int) ∧ k ≤ 9 ∧ Kept g w wr ∧ ((k = 0 ∧ sv = .slice (some ⟨g, 0, none⟩) n n ∧ ∃ f, BlkE wr g n f) ∨ (1 ≤ k ∧ ∃ xs, wr.ownsRow w.heap.size 24 4 sv (n + k) xs))) (fun _ iv _ => 9 - (intOf iv).toNat)
      case atStart => exact ⟨0, rfl, by decide, hK, Or.inl ⟨rfl, rfl, f, bo⟩⟩
      case round =>
        obtain ⟨j, rfl, hj, hK2, hor⟩ := hrel
        clear hK bo
        by_cases hlt2 : j < 9
        · have hji : (j : Int) < 9 := by omega
          have hsz := hK2.size
          rcases hor with ⟨rfl, rfl, f2, bo2⟩ | ⟨hj1, xs, hown⟩
          · have olds : ∀ j u, (els f2 n)[j]? = some u → wr.cell? ⟨g, 0 + j, none⟩ = some u := fun j u hu => by
              have hjn : j < n * 4 := by
                rcases Nat.lt_or_ge j (n * 4) with h | h
                · exact h
                · rw [List.getElem?_eq_none (by rw [els_len]; exact h)] at hu; cases hu
              have e := els_get f2 n (j / 4) (j % 4) (by omega) (by omega)
              rw [show j / 4 * 4 + j % 4 = j from by omega, hu] at e
              have c := bo2.cell (j / 4) (by omega) (j % 4) (by omega)
              rw [show j / 4 * 4 + j % 4 = j from by omega] at c
              rw [Nat.zero_add, c, e]
            have HOL := (show Hid _ from olds)
            clear olds
            go_wp2_with (first
              | (at_builtin; refine wpList_append_arg _ rfl _ _ 27 rfl 24 i0 (.agg #[.int .u64 0, .int .u64 0, .int .u64 0, .int .u64 0]) 4 32 Tryd.underlying27 HI.out HZ.out.1 HZ.out.2.1 HZ.out.2.2 rfl (by decide) g 0 n n (els f2 n) rfl (els_len _ _) ?c0 ⟨wr.heap.size, 0, none⟩ 1 1 [.int .u64 66, .int .u64 0, .int .u64 0, .int .u64 0] rfl rfl ?c1 ?c2 (fun h => by omega) ?c3 ?c4 (fun h => by omega) ?_)
              | go_in)
            case c0 =>
              intro j u hu
              have hb : Below wr.heap.size wr (wr.alloc _) := (Below.refl _ _).alloc (Nat.le_refl _) (.cells #[.int .u64 66, .int .u64 0, .int .u64 0, .int .u64 0] 24)
              rw [hb.cell (p := ⟨g, 0 + j, none⟩) (by exact bo2.lt)]
              exact HOL.out j u hu
            case c1 =>
              intro j u hj
              match j, hj with
              | 0, hj => simp at hj; subst hj; simp [Addr.add]
              | 1, hj => simp at hj; subst hj; simp [Addr.add]
              | 2, hj => simp at hj; subst hj; simp [Addr.add]
              | 3, hj => simp at hj; subst hj; simp [Addr.add]
              | j + 4, hj => simp at hj
            case c2 => intro u hu; simp at hu; rcases hu with rfl | rfl <;> rfl
            case c3 => unfold maxLen; omega
            case c4 => omega
            intro v' w5 hown' hgrow
            go_wp2
            go_roundw
            case measure => simp [intOf]
            case rel =>
              refine ⟨1, rfl, by decide, (hK2.alloc _).grown hgrow (fun k hk => by cases hk), Or.inr ⟨Nat.le_refl _, els f2 n ++ [.int .u64 66, .int .u64 0, .int .u64 0, .int .u64 0], ?_⟩⟩
              obtain ⟨h1, h2⟩ := hown'
              refine ⟨h1, ?_⟩
              rcases h2 with h2 | ⟨g', c', cur, h3, h4, h5⟩
              · exact Or.inl h2
              · exact Or.inr ⟨g', c', cur, h3, by first | omega | (simp at h4; omega), h5⟩
          · go_wp2_with (first
              | (at_builtin; refine wpList_append_own _ rfl _ _ 27 rfl w.heap.size 24 i0 (.agg #[.int .u64 0, .int .u64 0, .int .u64 0, .int .u64 0]) 4 32 Tryd.underlying27 HI.out HZ.out.1 HZ.out.2.1 HZ.out.2.2 rfl (by decide) _ _ _ rfl (hown.alloc _) ⟨wr.heap.size, 0, none⟩ 1 1 [.int .u64 66, .int .u64 0, .int .u64 0, .int .u64 0] rfl rfl ?d1 ?d2 ?d3 ?d4 ?d5 ?_)
              | go_in)
            case d1 =>
              intro j u hj
              match j, hj with
              | 0, hj => simp at hj; subst hj; simp [Addr.add]
              | 1, hj => simp at hj; subst hj; simp [Addr.add]
              | 2, hj => simp at hj; subst hj; simp [Addr.add]
              | 3, hj => simp at hj; subst hj; simp [Addr.add]
              | j + 4, hj => simp at hj
            case d2 => intro u hu; simp at hu; rcases hu with rfl | rfl <;> rfl
            case d3 => unfold maxLen; omega
            case d4 => omega
            case d5 => simp; omega
            intro v' w5 hown' hgrow _
            go_wp2
            go_roundw
            case measure => simp [intOf]; omega
            case rel =>
              refine ⟨j + 1, by go_num, by omega, (hK2.alloc _).grown hgrow (fun k hk => own_block_geE hown hk), Or.inr ⟨by omega, _, hown'⟩⟩
        · have hji : ¬ (j : Int) < 9 := by omega
          have hj9 : j = 9 := by omega
          subst hj9
          rcases hor with ⟨h0, _⟩ | ⟨_, xs, hown⟩
          · omega
          · obtain ⟨_, h2⟩ := hown
            rcases h2 with ⟨_, h0⟩ | ⟨g', c', cur, rfl, _⟩
            · omega
            · have h9 : (9 : Int) ≤ (n : Int) + 9 := by omega
              clear hlt2
              go_wp2
              go_ret
              exact ⟨rfl, hK2⟩

set_option maxHeartbeats 4000000 in
set_option maxRecDepth 20000 in
theorem marked_nil (w : World) :
    Calls Tryd.prog 27 #[.slice none 0 0] w fun e w' => e = .returned (.bool true) ∧ Below w.heap.size w w' := by
  obtain ⟨i0, hi, hz0, hz1, hz2⟩ := elemInfo
  have HI := (show Hid _ from hi); have HZ := (show Hid _ from And.intro hz0 (And.intro hz1 hz2)); clear hi hz0 hz1 hz2
  go_enter Tryd.func27, Tryd.ntmps27
  go_wp2
  go_loop [3] (fun i => i = .int .i64 0) (fun _ => 0)
  case atStart => rfl
  case round =>
    subst hrel
    go_wp2
    go_loopw [0, 4] (fun sv iv wr => ∃ k : Nat, iv = .int .i64 (k : Int) ∧ k ≤ 9 ∧ Below w.heap.size w wr ∧ ∃ xs, wr.ownsRow w.heap.size 24 4 sv k xs) (fun _ iv _ => 9 - (intOf iv).toNat)
    case atStart => exact ⟨0, rfl, by decide, Below.refl _ _, [], rfl, Or.inl ⟨rfl, rfl⟩⟩
    case round =>
      obtain ⟨j, rfl, hj, hB2, xs, hown⟩ := hrel
      by_cases hlt2 : j < 9
      · have hji : (j : Int) < 9 := by omega
        have hsz := hB2.size
        go_wp2_with (first
          | (at_builtin; refine wpList_append_own _ rfl _ _ 27 rfl w.heap.size 24 i0 (.agg #[.int .u64 0, .int .u64 0, .int .u64 0, .int .u64 0]) 4 32 Tryd.underlying27 HI.out HZ.out.1 HZ.out.2.1 HZ.out.2.2 rfl (by decide) _ _ _ rfl (hown.alloc _) ⟨wr.heap.size, 0, none⟩ 1 1 [.int .u64 66, .int .u64 0, .int .u64 0, .int .u64 0] rfl rfl ?d1 ?d2 ?d3 ?d4 ?d5 ?_)
          | go_in)
        case d1 =>
          intro j u hj
          match j, hj with
          | 0, hj => simp at hj; subst hj; simp [Addr.add]
          | 1, hj => simp at hj; subst hj; simp [Addr.add]
          | 2, hj => simp at hj; subst hj; simp [Addr.add]
          | 3, hj => simp at hj; subst hj; simp [Addr.add]
          | j + 4, hj => simp at hj
        case d2 => intro u hu; simp at hu; rcases hu with rfl | rfl <;> rfl
        case d3 => unfold maxLen; omega
        case d4 => omega
        case d5 => simp; omega
        intro v' w5 hown' hgrow _
        go_wp2
        go_roundw
        case measure => simp [intOf]; omega
        case rel =>
          refine ⟨j + 1, by go_num, by omega, (hB2.alloc hsz _).grown hgrow (by simp; omega) (fun k hk => own_block_geE hown hk), _, hown'⟩
      · have hji : ¬ (j : Int) < 9 := by omega
        have hj9 : j = 9 := by omega
        subst hj9
        obtain ⟨_, h2⟩ := hown
        rcases h2 with ⟨_, h0⟩ | ⟨g', c', cur, rfl, _⟩
        · omega
        · clear hlt2
          go_wp2
          go_ret
          exact ⟨rfl, hB2⟩

end Go.Proofs.YtfkdfngegeeciaaDoor
