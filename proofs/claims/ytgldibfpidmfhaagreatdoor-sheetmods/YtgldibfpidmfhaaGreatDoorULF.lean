/- circuit.Rows. -/
import Derived.Test.YtgldibfpidmfhaaGreatDoorULE
namespace Go.Proofs.YtgldibfpidmfhaaGreatDoor
open Go.RowKit
def usK (k : Int) : Int := if 2 ≤ k ∧ k ≤ 30 then 2 ^ k.toNat - 4 else 0
theorem usK_range (k : Int) : 0 ≤ usK k ∧ usK k ≤ 1073741824 := by
  unfold usK
  split
  · rename_i h
    obtain ⟨q, rfl⟩ : ∃ q : Nat, k = q := ⟨k.toNat, by omega⟩
    have e1 : (2 : Int) ^ q = ((2 ^ q : Nat) : Int) := by simp
    have hP : 4 ≤ 2 ^ q ∧ 2 ^ q ≤ 1073741824 := ⟨Nat.pow_le_pow_right (n := 2) (i := 2) (by decide) (by omega), Nat.pow_le_pow_right (n := 2) (j := 30) (by decide) (by omega)⟩
    rw [show ((q : Int)).toNat = q from rfl, e1]
    omega
  · omega
/-- The two rows, where a node reaches so far back and on, and u are usable. -/
def rwP (b u : Int) : Int × Int := if u ≤ b then (0, 0) else (b, u)
def rwE (ok : Bool) (T : Nat → Int × Int × Int × Nat) (k : Int) (root : Nat) : Int × Int := if ok = true then rwP (bkN T root (cnN T root (root + 1))) (usK k - fwN T root (cnN T root (root + 1))) else (0, 0)
theorem cone_rots {n : Nat} {T : Nat → Int × Int × Int × Nat} {F A I : Int} {root : Nat} (hr : root < n) (hf : ∀ i, i < n → fitN (T i) F A I = true) : ∀ j, j < cnN T root (root + 1) → isQ (cnT T root j).1 = true → -3 ≤ (cnT T root j).2.2.1 ∧ (cnT T root j).2.2.1 ≤ 3 := by
  intro j hj hq
  have h1 := cnF_range T root (root + 1) j hj
  have h2 := hf (cnF T root (root + 1) j).toNat (by omega)
  unfold fitN at h2
  change (!isQ (cnT T root j).1 || fitB (cnT T root j).2.1 (cnT T root j).2.2.1 (colOf F A I (cnT T root j).1)) = true at h2
  rw [hq] at h2
  have h3 : fitB (cnT T root j).2.1 (cnT T root j).2.2.1 (colOf F A I (cnT T root j).1) = true := h2
  have h4 := of_decide_eq_true h3
  exact ⟨h4.2.2.1, h4.2.2.2⟩
set_option maxHeartbeats 8000000 in
set_option maxRecDepth 100000 in
theorem cRows_any (F A I : Int) (oN oG oL oE : Option Addr) (n cN g cG l cL m cE : Nat) (f : Nat → Value × Value) (ni nt : Nat → Nat) (In Tb : Nat → Nat → Int) (T : Nat → Int × Int × Int × Nat) (G : Nat → Int) (E : Nat → Int × Int) (k node : Int) (hgn : g ≤ 100000000000000) (hr : Rng F A I m E) (w : World)
    (hc : Cir w (.slice oN n cN) (.slice oG g cG) (.slice oL l cL) (.slice oE m cE) n T g G l f ni nt In Tb m E) :
    Calls Tryz.prog 47 #[.agg #[.int .i64 F, .int .i64 A, .int .i64 I, .slice oN n cN, .slice oG g cG, .slice oL l cL, .slice oE m cE], .int .i64 k, .int .i64 node] w fun e w' => e = .returned (.tuple #[.int .i64 (rwE (chkB n T F A I && (rgtB n T F A I g G l ni nt In Tb m E && plB n node)) T k node.toNat).1, .int .i64 (rwE (chkB n T F A I && (rgtB n T F A I g G l ni nt In Tb m E && plB n node)) T k node.toNat).2]) ∧ Below w.heap.size w w' := by
  obtain ⟨w1, ew1⟩ : ∃ x : World, x = w.alloc (.cells #[.int .i64 F, .int .i64 A, .int .i64 I, .slice oN n cN, .slice oG g cG, .slice oL l cL, .slice oE m cE] 27) := ⟨_, rfl⟩
  have hb1 : Below w.heap.size w w1 := by rw [ew1]; exact bAlloc (Below.refl _ _) _
  obtain ⟨b1, eb1⟩ : ∃ x, x = w.heap.size := ⟨_, rfl⟩
  have f1 : w1.heap[b1]? = some (.cells #[.int .i64 F, .int .i64 A, .int .i64 I, .slice oN n cN, .slice oG g cG, .slice oL l cL, .slice oE m cE] 27) := by rw [ew1, eb1]; show (w.heap.push _)[w.heap.size]? = _; simp
  have HLA : Hid (Calls _ _ _ _ _) := lookAt_any F A I oN oG oL oE n cN g cG l cL m cE f ni nt In Tb T G E hgn hr w1 (hc.below hb1)
  have HCR : Hid (∀ w', Below w.heap.size w w' → Cir w' (.slice oN n cN) (.slice oG g cG) (.slice oL l cL) (.slice oE m cE) n T g G l f ni nt In Tb m E) := fun w' h => hc.below h
  obtain ⟨cb, ecb⟩ : ∃ b, b = chkB n T F A I := ⟨_, rfl⟩
  obtain ⟨rb, erb⟩ : ∃ b, b = rgtB n T F A I g G l ni nt In Tb m E := ⟨_, rfl⟩
  rw [← ecb, ← erb] at HLA
  rw [← ecb, ← erb]
  have HCB : Hid (cb = chkB n T F A I) := ecb
  have HRB : Hid (rb = rgtB n T F A I g G l ni nt In Tb m E) := erb
  have HB1 : Hid (Below w.heap.size w w1) := hb1
  obtain ⟨d0, d1, d2, d3, d4, d5, d6⟩ := cells7 f1
  clear hc hr hgn f1 hb1 ecb erb
  go_enter Tryz.func47, Tryz.ntmps47
  go_upto_region 1 with fail
  rw [← ew1, ← eb1]
  clear ew1 eb1
  go_wp2_with fail
  refine Calls.mono HLA.out ?_
  rintro e w3 ⟨hl, hb3⟩
  unfold LookP at hl
  obtain ⟨Gd, rfl, hzd⟩ := hl
  clear d0 d1 d2 d3 d4 d5 d6 HLA hzd
  cases cb
  · have HBF : Hid (Below w.heap.size w (w3.alloc (.cells #[.int .i64 0, .int .i64 0, .int .i64 0, .slice none 0 0, .slice none 0 0, .slice none 0 0, .slice none 0 0, .slice none 0 0] 133))) := bAlloc (bStep HB1.out hb3) _
    rw [show lookE false rb (.agg #[.int .i64 F, .int .i64 A, .int .i64 I, .slice oN n cN, .slice oG g cG, .slice oL l cL, .slice oE m cE, .slice (some ⟨Gd, 0, none⟩) n n]) = .returned (.tuple #[.agg #[.int .i64 0, .int .i64 0, .int .i64 0, .slice none 0 0, .slice none 0 0, .slice none 0 0, .slice none 0 0, .slice none 0 0], .int .i64 110]) from rfl]
    clear hb3
    go_wp2
    go_ret2
    exact ⟨rfl, HBF.out⟩
  · cases rb
    · have HBF : Hid (Below w.heap.size w (w3.alloc (.cells #[.int .i64 0, .int .i64 0, .int .i64 0, .slice none 0 0, .slice none 0 0, .slice none 0 0, .slice none 0 0, .slice none 0 0] 133))) := bAlloc (bStep HB1.out hb3) _
      rw [show lookE true false (.agg #[.int .i64 F, .int .i64 A, .int .i64 I, .slice oN n cN, .slice oG g cG, .slice oL l cL, .slice oE m cE, .slice (some ⟨Gd, 0, none⟩) n n]) = .returned (.tuple #[.agg #[.int .i64 0, .int .i64 0, .int .i64 0, .slice none 0 0, .slice none 0 0, .slice none 0 0, .slice none 0 0, .slice none 0 0], .int .i64 120]) from rfl]
      clear hb3
      go_wp2
      go_ret2
      exact ⟨rfl, HBF.out⟩
    · obtain ⟨w4, ew4⟩ : ∃ x : World, x = w3.alloc (.cells #[.int .i64 F, .int .i64 A, .int .i64 I, .slice oN n cN, .slice oG g cG, .slice oL l cL, .slice oE m cE, .slice (some ⟨Gd, 0, none⟩) n n] 133) := ⟨_, rfl⟩
      have hb4 : Below w3.heap.size w3 w4 := by rw [ew4]; exact bAlloc (Below.refl _ _) _
      have HB4 : Hid (Below w.heap.size w w4) := bStep (bStep HB1.out hb3) hb4
      rw [show lookE true true (.agg #[.int .i64 F, .int .i64 A, .int .i64 I, .slice oN n cN, .slice oG g cG, .slice oL l cL, .slice oE m cE, .slice (some ⟨Gd, 0, none⟩) n n]) = .returned (.tuple #[.agg #[.int .i64 F, .int .i64 A, .int .i64 I, .slice oN n cN, .slice oG g cG, .slice oL l cL, .slice oE m cE, .slice (some ⟨Gd, 0, none⟩) n n], .int .i64 0]) from rfl]
      have ha4 : w3.alloc (.cells #[.int .i64 F, .int .i64 A, .int .i64 I, .slice oN n cN, .slice oG g cG, .slice oL l cL, .slice oE m cE, .slice (some ⟨Gd, 0, none⟩) n n] 133) = w4 := ew4.symm
      obtain ⟨b4, eb4⟩ : ∃ x, x = w3.heap.size := ⟨_, rfl⟩
      have f4 : w4.heap[b4]? = some (.cells #[.int .i64 F, .int .i64 A, .int .i64 I, .slice oN n cN, .slice oG g cG, .slice oL l cL, .slice oE m cE, .slice (some ⟨Gd, 0, none⟩) n n] 133) := by rw [ew4, eb4]; show (w3.heap.push _)[w3.heap.size]? = _; simp
      have HF4 : Hid (w4.heap[b4]? = some (.cells #[.int .i64 F, .int .i64 A, .int .i64 I, .slice oN n cN, .slice oG g cG, .slice oL l cL, .slice oE m cE, .slice (some ⟨Gd, 0, none⟩) n n] 133)) := f4
      have hb4' : w3.heap.size = b4 := eb4.symm
      have HIP : Hid (Calls _ _ _ _ _) := isPlace_any F A I oN oG oL oE (some ⟨Gd, 0, none⟩) n cN g cG l cL m cE n n node w4
      obtain ⟨d0, d1, d2, d3, d4, d5, d6, d7⟩ := cells8 f4
      by_cases hp : 0 ≤ node ∧ node < (n : Int)
      · obtain ⟨root, rfl⟩ : ∃ q : Nat, node = (q : Int) := ⟨node.toNat, by omega⟩
        have HPB : Hid (plB n (root : Int) = true) := decide_eq_true hp
        have HQN : Hid (root < n) := by show root < n; omega
        obtain ⟨h64, hord, hfit⟩ := chkB_true HCB.out.symm
        have HUS : Hid (∀ w', Calls Tryz.prog 74 #[.int .i64 k] w' fun e w2 => e = .returned (.int .i64 (usK k)) ∧ w2 = w') := fun w' => usable_any k w'
        have hyr := cone_rots (root := root) HQN.out hfit
        have hrr := reach_range T root (cnN T root (root + 1)) hyr
        have HRE : Hid (∀ w', Below w.heap.size w w' → Calls Tryz.prog 77 #[.agg #[.int .i64 F, .int .i64 A, .int .i64 I, .slice oN n cN, .slice oG g cG, .slice oL l cL, .slice oE m cE, .slice (some ⟨Gd, 0, none⟩) n n], .int .i64 (root : Int)] w' fun e w2 => e = .returned (.tuple #[.int .i64 (bkN T root (cnN T root (root + 1))), .int .i64 (fwN T root (cnN T root (root + 1)))]) ∧ Below w'.heap.size w' w2) := fun w' h => reach_in F A I oN oG oL oE (some ⟨Gd, 0, none⟩) n cN g cG l cL m cE n n T root (by omega) hord HQN.out hyr w' (HCR.out w' h).1
        obtain ⟨x, ex⟩ : ∃ x, x = bkN T root (cnN T root (root + 1)) := ⟨_, rfl⟩
        obtain ⟨y, ey⟩ : ∃ y, y = fwN T root (cnN T root (root + 1)) := ⟨_, rfl⟩
        obtain ⟨u, eu⟩ : ∃ u, u = usK k := ⟨_, rfl⟩
        have hur := usK_range k
        rw [← ex, ← ey] at hrr HRE
        rw [← eu] at HUS hur
        obtain ⟨⟨hx0, hx1⟩, hy0, hy1⟩ := hrr
        obtain ⟨hu0, hu1⟩ := hur
        rw [HPB.out] at HIP
        have HEQ : Hid (rwE (true && (true && plB n (root : Int))) T k ((root : Int)).toNat = rwP x (u - y)) := by
          show rwE _ T k _ = _
          rw [HPB.out, ex, ey, eu]; rfl
        clear hb3 hb4 ew4 eb4 f4 hp hyr ex ey eu h64 hord hfit
        go_wp2_with fail
        refine Calls.mono HIP.out ?_
        rintro e w5 ⟨rfl, hb5⟩
        have HB5 : Hid (Below w.heap.size w w5) := bStep HB4.out hb5
        clear d0 d1 d2 d3 d4 d5 d6 d7
        obtain ⟨d0, d1, d2, d3, d4, d5, d6, d7⟩ := cells8 ((hb5.block b4 (Array.getElem?_eq_some_iff.1 HF4.out).1).trans HF4.out)
        clear hb5 HIP ha4 hb4'
        go_wp2_with fail
        refine (HRE.out w5 HB5.out).mono ?_
        rintro e w6 ⟨rfl, hb6⟩
        have HB6 : Hid (Below w.heap.size w w6) := bStep HB5.out hb6
        clear d0 d1 d2 d3 d4 d5 d6 d7 hb6 HRE
        go_wp2_with fail
        refine (HUS.out w6).mono ?_
        rintro e w7 ⟨rfl, hw7⟩
        obtain rfl := hw7.symm
        clear HUS
        by_cases hxu : u - y ≤ x
        · have HRW : Hid (rwP x (u - y) = (0, 0)) := if_pos hxu
          go_wp2
          go_ret2
          exact ⟨by rw [HEQ.out, HRW.out]; rfl, HB6.out⟩
        · have HRW : Hid (rwP x (u - y) = (x, u - y)) := if_neg hxu
          have hxu' : x < u - y := by omega
          go_wp2
          go_ret2
          exact ⟨by rw [HEQ.out, HRW.out]; rfl, HB6.out⟩
      · have HPB : Hid (plB n node = false) := decide_eq_false hp
        rw [HPB.out] at HIP
        have HEQ : Hid (rwE (true && (true && plB n node)) T k node.toNat = (0, 0)) := by
          show rwE _ T k _ = _
          rw [HPB.out]; rfl
        clear hb3 hb4 ew4 eb4 f4 hp
        go_wp2_with fail
        refine Calls.mono HIP.out ?_
        rintro e w5 ⟨rfl, hb5⟩
        have HB5 : Hid (Below w.heap.size w w5) := bStep HB4.out hb5
        clear d0 d1 d2 d3 d4 d5 d6 d7 hb5 HIP ha4 hb4'
        go_wp2
        go_ret2
        exact ⟨by rw [HEQ.out]; rfl, HB5.out⟩
end Go.Proofs.YtgldibfpidmfhaaGreatDoor

/- sigilref00.CopyCircuit: a circuit as new memory. -/
namespace Go.Proofs.YtgldibfpidmfhaaGreatDoor
open Go.RowKit
theorem new_at (w : World) (o : Obj) (N : Nat) (h : N = w.heap.size) : (w.alloc o).heap[N]? = some o := by
  subst h
  show (w.heap.push _)[w.heap.size]? = _
  simp
theorem cirUnd : Tryz.prog.underlying 27 = some (.struct (Tryz.prog.fieldsOf 27)) := by kernel_rfl
theorem cirSize : (Tryz.prog.info? 27).map (·.size) = some 7 := by kernel_rfl
theorem Rs.grown {w w' : World} {v : Value} {s n : Nat} {F : Nat → Nat → Value} {row : Option Nat} (h : Rs w v s n F) (hg : w.grownBy w' row) (hs : ∀ b o c, v = .slice (some ⟨b, o, none⟩) n c → row ≠ some b) : Rs w' v s n F := by
  rcases h with h | ⟨b, o, c, hv, h1, h2, h3, h4⟩
  · exact Or.inl h
  · refine Or.inr ⟨b, o, c, hv, h1, h2, Nat.lt_of_lt_of_le h3 hg.size, fun i hi j hj => ?_⟩
    rw [World.cell?_of_block (w := w) (hg.block b h3 (fun e => hs b o c hv e.symm))]
    exact h4 i hi j hj
theorem Rs.blk {w : World} {v : Value} {s n : Nat} {F : Nat → Nat → Value} (h : Rs w v s n F) (b o c : Nat) (hv : v = .slice (some ⟨b, o, none⟩) n c) : b < w.heap.size := by
  rcases h with ⟨h, _⟩ | ⟨b', o', c', h, _, _, h3, _⟩
  · rw [h] at hv; cases hv
  · rw [h] at hv; cases hv; exact h3
/-- A list of numbers that lies not in block q, nor below base. -/
def ZsN (w : World) (v : Value) (n : Nat) (f : Nat → Int) (q : Option Nat) (base : Nat) : Prop := Zs w v n f ∧ ∀ b o c, v = .slice (some ⟨b, o, none⟩) n c → q ≠ some b ∧ base ≤ b
theorem ZsN.below {w w' : World} {v : Value} {n : Nat} {f : Nat → Int} {q : Option Nat} {base : Nat} (h : ZsN w v n f q base) (hb : Below w.heap.size w w') : ZsN w' v n f q base := ⟨h.1.below hb, h.2⟩
theorem ZsN.grown {w w' : World} {v v' u : Value} {n : Nat} {f : Nat → Int} {base : Nat} (h : ZsN w v n f u.ownBlock base) (hg : w.grownBy w' u.ownBlock) (hs : ∀ b, v'.ownBlock = some b → u.ownBlock = some b ∨ w.heap.size ≤ b) : ZsN w' v n f v'.ownBlock base := by
  refine ⟨Rs.grown h.1 hg (fun b o c hv => (h.2 b o c hv).1), fun b o c hv => ⟨fun e => ?_, (h.2 b o c hv).2⟩⟩
  rcases hs b e with h1 | h1
  · exact (h.2 b o c hv).1 h1
  · have := Rs.blk h.1 b o c hv; omega
theorem own_ZsN {w : World} {base b0 n : Nat} {v : Value} {f : Nat → Int} {q : Option Nat} (h : w.ownsRow base 3 1 v n (rwl 1 (fun i _ => .int .i64 (f i)) n)) (hq : ∀ b, q = some b → b < base) (h0 : b0 ≤ base) : ZsN w v n f q b0 :=
  ⟨own_Rs h, fun b o c hv => by
    have h1 := own_ge h (j := b) (by rw [hv]; rfl)
    refine ⟨fun e => ?_, by omega⟩
    have h2 := hq b e
    omega⟩
theorem one_Rs2 (w : World) (t : TypeId) (v u : Value) : Rs (w.alloc (.cells #[v, u] t)) (.slice (some ⟨w.heap.size, 0, none⟩) 1 1) 2 1 (fun _ => pC (v, u)) := by
  refine BlkR.Rs (t := t) ⟨#[v, u], ?_, rfl, ?_⟩ (by decide)
  · show (w.heap.push _)[w.heap.size]? = _; simp
  · intro i hi j hj
    have : i = 0 := by omega
    have hc : j = 0 ∨ j = 1 := by omega
    subst i
    rcases hc with rfl | rfl <;> rfl
/-- The lookups that are copied so far: a list of one's own, and in none of its blocks the copies' lists. -/
def LkO (w : World) (v : Value) (base k : Nat) (f : Nat → Value × Value) (ni nt : Nat → Nat) (In Tb : Nat → Nat → Int) : Prop :=
  w.ownsRow base 62 2 v k (rwl 2 (fun i => pC (f i)) k) ∧ ∀ i, i < k → ZsN w (f i).1 (ni i) (In i) v.ownBlock base ∧ ZsN w (f i).2 (nt i) (Tb i) v.ownBlock base
theorem one7 (F A I : Int) (oN oG oL oE : Option Addr) (n cN g cG l cL m cE : Nat) : (#[.int .i64 F, .int .i64 A, .int .i64 I, .slice oN n cN, .slice oG g cG, .slice oL l cL, .slice oE m cE] : Array Value).all (·.oneCell') = true := by
  refine all_oneCell_toArray ?_
  simp only [List.forall_mem_cons]
  exact ⟨rfl, rfl, rfl, rfl, rfl, rfl, rfl, fun v hv => by cases hv⟩
/-- Lookups: each with its two lists; of an empty one's place nothing is said. -/
def LkQ (w : World) (v : Value) (l : Nat) (f : Nat → Value × Value) (ni nt : Nat → Nat) (In Tb : Nat → Nat → Int) : Prop := Rs w v 2 l (fun i => pC (f i)) ∧ ∀ i, i < l → Zq w (f i).1 (ni i) (In i) ∧ Zq w (f i).2 (nt i) (Tb i)
theorem LkQ.below {w w' : World} {v : Value} {l : Nat} {f : Nat → Value × Value} {ni nt : Nat → Nat} {In Tb : Nat → Nat → Int} (h : LkQ w v l f ni nt In Tb) (hb : Below w.heap.size w w') : LkQ w' v l f ni nt In Tb :=
  ⟨h.1.below hb, fun i hi => ⟨(h.2 i hi).1.below hb, (h.2 i hi).2.below hb⟩⟩
theorem LkQ.shape {w : World} {v : Value} {l : Nat} {f : Nat → Value × Value} {ni nt : Nat → Nat} {In Tb : Nat → Nat → Int} (h : LkQ w v l f ni nt In Tb) (i : Nat) (hi : i < l) : (∃ o c, (f i).1 = .slice o (ni i) c) ∧ ∃ o c, (f i).2 = .slice o (nt i) c := ⟨(h.2 i hi).1.shape, (h.2 i hi).2.shape⟩
/-- A circuit that is handed in. -/
def CirQ (w : World) (nv gv lv ev : Value) (n : Nat) (T : Nat → Int × Int × Int × Nat) (g : Nat) (G : Nat → Int) (l : Nat) (f : Nat → Value × Value) (ni nt : Nat → Nat) (In Tb : Nat → Nat → Int) (m : Nat) (E : Nat → Int × Int) : Prop :=
  Rs w nv 7 n (fun i => nC (T i)) ∧ Zs w gv g G ∧ LkQ w lv l f ni nt In Tb ∧ Cls w ev m E
theorem CirQ.below {w w' : World} {nv gv lv ev : Value} {n : Nat} {T : Nat → Int × Int × Int × Nat} {g : Nat} {G : Nat → Int} {l : Nat} {f : Nat → Value × Value} {ni nt : Nat → Nat} {In Tb : Nat → Nat → Int} {m : Nat} {E : Nat → Int × Int} (h : CirQ w nv gv lv ev n T g G l f ni nt In Tb m E) (hb : Below w.heap.size w w') : CirQ w' nv gv lv ev n T g G l f ni nt In Tb m E :=
  ⟨h.1.below hb, Zs.below h.2.1 hb, h.2.2.1.below hb, h.2.2.2.below hb⟩
def CopyP (e : Ending) (w w' : World) (F A I : Int) (n : Nat) (T : Nat → Int × Int × Int × Nat) (g : Nat) (G : Nat → Int) (l : Nat) (ni nt : Nat → Nat) (In Tb : Nat → Nat → Int) (m : Nat) (E : Nat → Int × Int) : Prop :=
  ∃ (oN oG oL oE : Option Addr) (cN cG cL cE : Nat) (f : Nat → Value × Value), e = .returned (.agg #[.int .i64 F, .int .i64 A, .int .i64 I, .slice oN n cN, .slice oG g cG, .slice oL l cL, .slice oE m cE]) ∧ Cir w' (.slice oN n cN) (.slice oG g cG) (.slice oL l cL) (.slice oE m cE) n T g G l f ni nt In Tb m E ∧ Below w.heap.size w w'
set_option maxHeartbeats 16000000 in
set_option maxRecDepth 100000 in
theorem copyC_any (F A I : Int) (oN oG oL oE : Option Addr) (n cN g cG l cL m cE : Nat) (f : Nat → Value × Value) (ni nt : Nat → Nat) (In Tb : Nat → Nat → Int) (T : Nat → Int × Int × Int × Nat) (G : Nat → Int) (E : Nat → Int × Int) (hn : n ≤ 2513169434916) (hg : g ≤ 17592186044416) (hl : l ≤ 2932031007402) (hm : m ≤ 8796093022208) (hi : ∀ i, i < l → ni i ≤ 17592186044416 ∧ nt i ≤ 17592186044416) (w : World)
    (hc : CirQ w (.slice oN n cN) (.slice oG g cG) (.slice oL l cL) (.slice oE m cE) n T g G l f ni nt In Tb m E) :
    Calls Tryz.prog 7 #[.agg #[.int .i64 F, .int .i64 A, .int .i64 I, .slice oN n cN, .slice oG g cG, .slice oL l cL, .slice oE m cE]] w fun e w' => CopyP e w w' F A I n T g G l ni nt In Tb m E := by
  obtain ⟨w1, ew1⟩ : ∃ x : World, x = w.alloc (.cells #[.int .i64 F, .int .i64 A, .int .i64 I, .slice oN n cN, .slice oG g cG, .slice oL l cL, .slice oE m cE] 27) := ⟨_, rfl⟩
  have hb1 : Below w.heap.size w w1 := by rw [ew1]; exact bAlloc (Below.refl _ _) _
  obtain ⟨b1, eb1⟩ : ∃ x, x = w.heap.size := ⟨_, rfl⟩
  have f1 : w1.heap[b1]? = some (.cells #[.int .i64 F, .int .i64 A, .int .i64 I, .slice oN n cN, .slice oG g cG, .slice oL l cL, .slice oE m cE] 27) := by rw [ew1, eb1]; show (w.heap.push _)[w.heap.size]? = _; simp
  obtain ⟨b2, eb2⟩ : ∃ x, x = w.heap.size + 1 := ⟨_, rfl⟩
  have eb2' : w1.heap.size = b2 := by rw [ew1, eb2]; simp
  obtain ⟨w2, ew2⟩ : ∃ x : World, x = w1.alloc (.cells #[.int .i64 0, .int .i64 0, .int .i64 0, .slice none 0 0, .slice none 0 0, .slice none 0 0, .slice none 0 0] 27) := ⟨_, rfl⟩
  have hb12 : Below w1.heap.size w1 w2 := by rw [ew2]; exact bAlloc (Below.refl _ _) _
  have hb2 : Below w.heap.size w w2 := bStep hb1 hb12
  have f12 := (hb12.block b1 (Array.getElem?_eq_some_iff.1 f1).1).trans f1
  have f22 : w2.heap[b2]? = some (.cells #[.int .i64 0, .int .i64 0, .int .i64 0, .slice none 0 0, .slice none 0 0, .slice none 0 0, .slice none 0 0] 27) := by rw [ew2, ← eb2']; show (w1.heap.push _)[w1.heap.size]? = _; simp
  have HCR : Hid (∀ w', Below w.heap.size w w' → CirQ w' (.slice oN n cN) (.slice oG g cG) (.slice oL l cL) (.slice oE m cE) n T g G l f ni nt In Tb m E) := fun w' h => hc.below h
  have HCN : Hid (Calls _ _ _ _ _) := copyN_any n (.slice oN n cN) T hn w2 (HCR.out w2 hb2).1
  have HGB : Hid (g ≤ 17592186044416) := hg
  have HLB : Hid (l ≤ 2932031007402) := hl
  have HMB : Hid (m ≤ 8796093022208) := hm
  have HIB : Hid (∀ i, i < l → ni i ≤ 17592186044416 ∧ nt i ≤ 17592186044416) := hi
  have HB2 : Hid (Below w.heap.size w w2) := hb2
  have HW1 : Hid (w.heap.size ≤ b1 ∧ w.heap.size ≤ b2 ∧ ¬ b1 = b2 ∧ b1 < w2.heap.size ∧ b2 < w2.heap.size) := ⟨by omega, by omega, by omega, (Array.getElem?_eq_some_iff.1 f12).1, (Array.getElem?_eq_some_iff.1 f22).1⟩
  have HF1 : Hid (w2.heap[b1]? = some (.cells #[.int .i64 F, .int .i64 A, .int .i64 I, .slice oN n cN, .slice oG g cG, .slice oL l cL, .slice oE m cE] 27)) := f12
  have HF2 : Hid (w2.heap[b2]? = some (.cells #[.int .i64 0, .int .i64 0, .int .i64 0, .slice none 0 0, .slice none 0 0, .slice none 0 0, .slice none 0 0] 27)) := f22
  obtain ⟨d0, d1, d2, d3, d4, d5, d6⟩ := cells7 f12
  clear hc hn hg hl hm hi f1 f12 f22 hb1 hb12 hb2
  go_enter Tryz.func7, Tryz.ntmps7
  go_upto_region 1 with fail
  rw [← ew1, ← eb2, ← eb1, ← ew2]
  clear ew1 eb1 eb2 eb2' ew2
  go_wp2_with fail
  refine Calls.mono HCN.out ?_
  rintro e w3 ⟨nv, rfl, hon3, hb3⟩
  obtain ⟨oN', cN', rfl, _⟩ := own_shape hon3
  have f13 := (hb3.block b1 HW1.out.2.2.2.1).trans HF1.out
  have f23 := (hb3.block b2 HW1.out.2.2.2.2).trans HF2.out
  clear d0 d1 d2 d3 d4 d5 d6
  obtain ⟨d0, d1, d2, d3, d4, d5, d6⟩ := cells7 f13
  have g3 : ∀ o, w3.frozen? ⟨b1, o, none⟩ = false := fun o => by simp [World.frozen?, f13]
  obtain ⟨w4, ew4⟩ : ∃ x : World, x = w3.setCell ⟨b1, 3, none⟩ (.slice oN' n cN') := ⟨_, rfl⟩
  have f14 : w4.heap[b1]? = some (.cells #[.int .i64 F, .int .i64 A, .int .i64 I, .slice oN' n cN', .slice oG g cG, .slice oL l cL, .slice oE m cE] 27) := by rw [ew4]; simp [World.setCell, Array.getElem?_modify, f13]
  have k34 : KS (fun x => x = b1) w3 w4 := by rw [ew4]; exact KS.setCell w3 ⟨b1, 3, none⟩ _ rfl
  have ha4 : w3.setCell ⟨b1, 3, none⟩ (.slice oN' n cN') = w4 := ew4.symm
  have hb4 : Below w.heap.size w w4 := (bStep HB2.out hb3).trans (k34.below (bStep HB2.out hb3).size (fun x hx => by rw [hx]; exact HW1.out.1))
  have hon4 : Rs w4 (.slice oN' n cN') 7 n (fun i => nC (T i)) := (own_Rs hon3).ks (fun b o c e h => by have h1 := own_ge hon3 (j := b) (by rw [e]; rfl); have h2 := HW1.out.2.2.2.1; omega) k34
  have hnb4 : ∀ b o c, (Value.slice oN' n cN') = .slice (some ⟨b, o, none⟩) n c → b1 < b ∧ b2 < b := fun b o c e => by
    have h1 := own_ge hon3 (j := b) (by rw [e]; rfl)
    have h2 := HW1.out.2.2.2.1
    have h3 := HW1.out.2.2.2.2
    omega
  have f24 := (k34.block (Nat.lt_of_lt_of_le HW1.out.2.2.2.2 hb3.size) (fun e => HW1.out.2.2.1 e.symm)).trans f23
  have HS4 : Hid (w2.heap.size ≤ w4.heap.size) := Nat.le_trans hb3.size k34.size
  clear HCN ew4 k34 f13 f23 hon3 hb3
  go_upto_region 2 with fail
  (try rw [ha4])
  clear ha4 g3 d0 d1 d2 d3 d4 d5 d6
  obtain ⟨d0, d1, d2, d3, d4, d5, d6⟩ := cells7 f14
  have HGC : Hid (Calls _ _ _ _ _) := copyI_any g (.slice oG g cG) G HGB.out w4 (HCR.out w4 hb4).2.1
  go_wp2_with fail
  refine Calls.mono HGC.out ?_
  rintro e w5 ⟨gv, rfl, hog5, hb5⟩
  obtain ⟨oG', cG', rfl, _⟩ := own_shape hog5
  have f15 := (hb5.block b1 (Array.getElem?_eq_some_iff.1 f14).1).trans f14
  have f25 := (hb5.block b2 (Array.getElem?_eq_some_iff.1 f24).1).trans f24
  have hon5 := hon4.below hb5
  clear d0 d1 d2 d3 d4 d5 d6
  obtain ⟨d0, d1, d2, d3, d4, d5, d6⟩ := cells7 f15
  have g5 : ∀ o, w5.frozen? ⟨b1, o, none⟩ = false := fun o => by simp [World.frozen?, f15]
  obtain ⟨w6, ew6⟩ : ∃ x : World, x = w5.setCell ⟨b1, 4, none⟩ (.slice oG' g cG') := ⟨_, rfl⟩
  have f16 : w6.heap[b1]? = some (.cells #[.int .i64 F, .int .i64 A, .int .i64 I, .slice oN' n cN', .slice oG' g cG', .slice oL l cL, .slice oE m cE] 27) := by rw [ew6]; simp [World.setCell, Array.getElem?_modify, f15]
  have k56 : KS (fun x => x = b1) w5 w6 := by rw [ew6]; exact KS.setCell w5 ⟨b1, 4, none⟩ _ rfl
  have ha6 : w5.setCell ⟨b1, 4, none⟩ (.slice oG' g cG') = w6 := ew6.symm
  have hb6 : Below w.heap.size w w6 := (bStep hb4 hb5).trans (k56.below (bStep hb4 hb5).size (fun x hx => by rw [hx]; exact HW1.out.1))
  have hgb6 : ∀ b o c, (Value.slice oG' g cG') = .slice (some ⟨b, o, none⟩) g c → b1 < b ∧ b2 < b := fun b o c e => by
    have h1 := own_ge hog5 (j := b) (by rw [e]; rfl)
    have h2 := HW1.out.2.2.2.1
    have h3 := HW1.out.2.2.2.2
    have h4 := HS4.out
    omega
  have hog6 : Zs w6 (.slice oG' g cG') g G := (own_Rs hog5).ks (fun b o c e h => by have h1 := (hgb6 b o c e).1; omega) k56
  have hon6 : Rs w6 (.slice oN' n cN') 7 n (fun i => nC (T i)) := hon5.ks (fun b o c e h => by have h1 := (hnb4 b o c e).1; omega) k56
  have f26 := (k56.block (Nat.lt_of_lt_of_le (Array.getElem?_eq_some_iff.1 f24).1 hb5.size) (fun e => HW1.out.2.2.1 e.symm)).trans f25
  have HNB : Hid (∀ b o c, (Value.slice oN' n cN') = .slice (some ⟨b, o, none⟩) n c → b1 < b ∧ b2 < b) := hnb4
  have HGB6 : Hid (∀ b o c, (Value.slice oG' g cG') = .slice (some ⟨b, o, none⟩) g c → b1 < b ∧ b2 < b) := hgb6
  have HB6 : Hid (Below w.heap.size w w6) := hb6
  have HN6 : Hid (Rs w6 (.slice oN' n cN') 7 n (fun i => nC (T i))) := hon6
  have HG6 : Hid (Zs w6 (.slice oG' g cG') g G) := hog6
  have HF16 : Hid (w6.heap[b1]? = some (.cells #[.int .i64 F, .int .i64 A, .int .i64 I, .slice oN' n cN', .slice oG' g cG', .slice oL l cL, .slice oE m cE] 27)) := f16
  have HF26 : Hid (w6.heap[b2]? = some (.cells #[.int .i64 0, .int .i64 0, .int .i64 0, .slice none 0 0, .slice none 0 0, .slice none 0 0, .slice none 0 0] 27)) := f26
  clear HGC ew6 k56 f15 f25 hog5 hb5 hon5 hb6 hgb6 hog6 hon6 hon4 hnb4 f24 f14 hb4 f26
  go_upto_region 3 with fail
  (try rw [ha6])
  clear ha6 g5 d0 d1 d2 d3 d4 d5 d6
  obtain ⟨il, hil, hl0, hl1, hl2⟩ := lkInf
  have HIL := (show Hid _ from hil); have HZL := (show Hid _ from And.intro hl0 (And.intro hl1 hl2)); clear hil hl0 hl1 hl2
  obtain ⟨ic, hic, hc0, hc1, hc2⟩ := colInf
  have HIC := (show Hid _ from hic); have HZC := (show Hid _ from And.intro hc0 (And.intro hc1 hc2)); clear hic hc0 hc1 hc2
  obtain ⟨B7, eB7⟩ : ∃ x, x = w6.heap.size := ⟨_, rfl⟩
  obtain ⟨w7, ew7⟩ : ∃ x : World, x = w6.alloc (.cells #[] 62) := ⟨_, rfl⟩
  have HO7 : Hid (LkO w7 (.slice (some ⟨B7, 0, none⟩) 0 0) B7 0 (fun _ => (undef, undef)) ni nt In Tb) := by
    rw [eB7, ew7]
    exact ⟨own_new w6 62 2, fun i hi => by omega⟩
  have HB7 : Hid (Below w6.heap.size w6 w7) := by rw [ew7]; exact bAlloc (Below.refl _ _) _
  have ha7 : w6.alloc (.cells #[] 62) = w7 := ew7.symm
  have ha7' : w6.heap.size = B7 := eB7.symm
  have HE7 : Hid (B7 = w6.heap.size) := eB7
  clear ew7 eB7 f16
  go_upto_region 4 with fail
  clear ha7 ha7'
  go_wp2
  go_loopw [4, 3] (fun iv lv wr => ∃ k : Nat, iv = .int .i64 (k : Int) ∧ k ≤ l ∧ Below w6.heap.size w6 wr ∧ Hid (∃ f', LkO wr lv B7 k f' ni nt In Tb)) (fun iv _ _ => l - (intOf iv).toNat)
  case atStart => exact ⟨0, rfl, Nat.zero_le _, HB7.out, ⟨_, HO7.out⟩⟩
  case round =>
    obtain ⟨k, rfl, hk, hbr, ⟨f', hlo⟩⟩ := hrel
    obtain ⟨olv, clv, hsh, _⟩ := own_shape hlo.1
    subst hsh
    have f1r := (hbr.block b1 (Array.getElem?_eq_some_iff.1 HF16.out).1).trans HF16.out
    obtain ⟨d0, d1, d2, d3, d4, d5, d6⟩ := cells7 f1r
    clear HO7 HB7
    have hl63 := HLB.out
    by_cases hlt : k < l
    · have hki : (k : Int) < (l : Int) := by omega
      have hk0 : (0 : Int) ≤ (k : Int) := by omega
      have hBW : Below w.heap.size w wr := HB6.out.trans (hbr.mono HB6.out.size)
      have hlks := (HCR.out wr hBW).2.2.1
      obtain ⟨⟨o0, c0, e0⟩, o1, c1, e1⟩ := hlks.shape k hlt
      have hzz := hlks.2 k hlt
      rcases hlks.1 with ⟨_, h0⟩ | ⟨sb, so, c', hv, _, _, hsb, hcell⟩
      · omega
      cases hv
      have a0 := hcell k hlt 0 (by decide); have a1 := hcell k hlt 1 (by decide)
      dsimp only at a0 a1
      rw [show pC (f k) 0 = .slice o0 (ni k) c0 from e0] at a0
      rw [show pC (f k) 1 = .slice o1 (nt k) c1 from e1] at a1
      rw [Nat.add_zero] at a0
      rw [e0, e1] at hzz
      obtain ⟨M1, eM1⟩ : ∃ M, M = ni k := ⟨_, rfl⟩
      obtain ⟨M2, eM2⟩ : ∃ M, M = nt k := ⟨_, rfl⟩
      rw [← eM1, ← eM2] at hzz
      rw [← eM1] at a0
      rw [← eM2] at a1
      have hM1 : M1 ≤ 17592186044416 := by rw [eM1]; exact (HIB.out k hlt).1
      have hM2 : M2 ≤ 17592186044416 := by rw [eM2]; exact (HIB.out k hlt).2
      have HZZ : Hid (Zq wr (.slice o0 M1 c0) M1 (In k) ∧ Zq wr (.slice o1 M2 c1) M2 (Tb k)) := hzz
      have HE1 : Hid (M1 = ni k) := eM1
      have HE2 : Hid (M2 = nt k) := eM2
      have HLO : Hid (LkO wr (.slice olv k clv) B7 k f' ni nt In Tb) := hlo
      have HBR : Hid (Below w6.heap.size w6 wr) := hbr
      have HB1L : Hid (b1 < wr.heap.size) := (Array.getElem?_eq_some_iff.1 f1r).1
      have HB17 : Hid (b1 < B7) := by rw [HE7.out]; exact (Array.getElem?_eq_some_iff.1 HF16.out).1
      have HSB : Hid (sb < wr.heap.size) := hsb
      have HSBW : Hid (sb < w.heap.size) := by
        rcases (HCR.out w (Below.refl _ _)).2.2.1.1 with ⟨h, _⟩ | ⟨b, o, c, h, _, _, h3, _⟩
        · cases h
        · cases h; exact h3
      have HWB7 : Hid (w.heap.size ≤ B7) := by rw [HE7.out]; exact HB6.out.size
      clear hcell hlks e0 e1 eM1 eM2 hzz hlo hsb
      go_upto_region 7 with fail
      clear d0 d1 d2 d3 d4 d5 d6 hbr
      refine wp_region_Z (fun w' => w'.cell? ⟨b1, 5, none⟩ = some (.slice (some ⟨sb, so, none⟩) l cL) ∧ w'.cell? ⟨sb, so + k * 2, none⟩ = some (.slice o0 M1 c0) ∧ w'.cell? ⟨sb, so + k * 2 + 1, none⟩ = some (.slice o1 M2 c1)) 19 (by kernel_rfl) ?_
      obtain ⟨wD, hD⟩ : ∃ z : World, z = wr.drew := ⟨_, rfl⟩
      rw [← hD]
      have hp : wD.cell? ⟨b1, 5, none⟩ = some (.slice (some ⟨sb, so, none⟩) l cL) ∧ wD.cell? ⟨sb, so + k * 2, none⟩ = some (.slice o0 M1 c0) ∧ wD.cell? ⟨sb, so + k * 2 + 1, none⟩ = some (.slice o1 M2 c1) := by rw [hD]; exact ⟨cell_of_block f1r 5, a0, a1⟩
      have hq : Below wr.heap.size wr wD := by rw [hD]; exact (Below.refl _ _).drew
      clear hD f1r a0 a1
      refine wpZ_take (i := 0) (v := .slice olv k clv) 22 rfl rfl (by kernel_rfl) (by kernel_rfl) (by kernel_rfl) (Or.inr (by decide)) (fun _ _ _ h => h) (Or.inl ⟨by rfl, fun w hSw => by go_simp⟩) hp ?_
      simp only [Act.put, List.setIfInBounds_toArray]
      dsimp only [List.set_cons_zero, List.set_cons_succ]
      refine wpZ_take (i := 1) (v := .pointer (some ⟨b1, 5, none⟩)) 23 rfl rfl (by kernel_rfl) (by kernel_rfl) (by kernel_rfl) (Or.inr (by decide)) (fun _ _ _ h => h) (Or.inl ⟨by rfl, fun w hSw => by go_simp⟩) hp ?_
      simp only [Act.put, List.setIfInBounds_toArray]
      dsimp only [List.set_cons_zero, List.set_cons_succ]
      refine wpZ_take (i := 2) (v := .slice (some ⟨sb, so, none⟩) l cL) 24 rfl rfl (by kernel_rfl) (by kernel_rfl) (by kernel_rfl) (Or.inr (by decide)) (fun _ _ _ h => h) (Or.inl ⟨by rfl, fun w hSw => by have c5 := hSw.1; go_simp⟩) hp ?_
      simp only [Act.put, List.setIfInBounds_toArray]
      dsimp only [List.set_cons_zero, List.set_cons_succ]
      refine wpZ_take (i := 3) (v := .int .i64 (k : Int)) 25 rfl rfl (by kernel_rfl) (by kernel_rfl) (by kernel_rfl) (Or.inr (by decide)) (fun _ _ _ h => h) (Or.inl ⟨by rfl, fun w hSw => by go_simp⟩) hp ?_
      simp only [Act.put, List.setIfInBounds_toArray]
      dsimp only [List.set_cons_zero, List.set_cons_succ]
      refine wpZ_take (i := 4) (v := .pointer (some ⟨sb, so + k * 2, none⟩)) 26 rfl rfl (by kernel_rfl) (by kernel_rfl) (by kernel_rfl) (Or.inr (by decide)) (fun _ _ _ h => h) (Or.inl ⟨by rfl, fun w hSw => by go_simp⟩) hp ?_
      simp only [Act.put, List.setIfInBounds_toArray]
      dsimp only [List.set_cons_zero, List.set_cons_succ]
      refine wpZ_take (i := 5) (v := .pointer (some ⟨sb, so + k * 2, none⟩)) 27 rfl rfl (by kernel_rfl) (by kernel_rfl) (by kernel_rfl) (Or.inr (by decide)) (fun _ _ _ h => h) (Or.inl ⟨by rfl, fun w hSw => by go_simp⟩) hp ?_
      simp only [Act.put, List.setIfInBounds_toArray]
      dsimp only [List.set_cons_zero, List.set_cons_succ]
      refine wpZ_take (i := 6) (v := .slice o0 M1 c0) 28 rfl rfl (by kernel_rfl) (by kernel_rfl) (by kernel_rfl) (Or.inr (by decide)) (fun _ _ _ h => h) (Or.inl ⟨by rfl, fun w hSw => by have c0 := hSw.2.1; have c1 := hSw.2.2; go_simp⟩) hp ?_
      simp only [Act.put, List.setIfInBounds_toArray]
      dsimp only [List.set_cons_zero, List.set_cons_succ]
      refine wpZ_take (i := 8) (v := .pointer (some ⟨b1, 5, none⟩)) 30 rfl rfl (by kernel_rfl) (by kernel_rfl) (by kernel_rfl) (Or.inr (by decide)) (fun _ _ _ h => h) (Or.inl ⟨by rfl, fun w hSw => by go_simp⟩) hp ?_
      simp only [Act.put, List.setIfInBounds_toArray]
      dsimp only [List.set_cons_zero, List.set_cons_succ]
      refine wpZ_take (i := 9) (v := .slice (some ⟨sb, so, none⟩) l cL) 31 rfl rfl (by kernel_rfl) (by kernel_rfl) (by kernel_rfl) (Or.inr (by decide)) (fun _ _ _ h => h) (Or.inl ⟨by rfl, fun w hSw => by have c5 := hSw.1; go_simp⟩) hp ?_
      simp only [Act.put, List.setIfInBounds_toArray]
      dsimp only [List.set_cons_zero, List.set_cons_succ]
      refine wpZ_take (i := 10) (v := .int .i64 (k : Int)) 32 rfl rfl (by kernel_rfl) (by kernel_rfl) (by kernel_rfl) (Or.inr (by decide)) (fun _ _ _ h => h) (Or.inl ⟨by rfl, fun w hSw => by go_simp⟩) hp ?_
      simp only [Act.put, List.setIfInBounds_toArray]
      dsimp only [List.set_cons_zero, List.set_cons_succ]
      refine wpZ_take (i := 11) (v := .pointer (some ⟨sb, so + k * 2, none⟩)) 33 rfl rfl (by kernel_rfl) (by kernel_rfl) (by kernel_rfl) (Or.inr (by decide)) (fun _ _ _ h => h) (Or.inl ⟨by rfl, fun w hSw => by go_simp⟩) hp ?_
      simp only [Act.put, List.setIfInBounds_toArray]
      dsimp only [List.set_cons_zero, List.set_cons_succ]
      refine wpZ_take (i := 12) (v := .pointer (some ⟨sb, so + k * 2 + 1, none⟩)) 34 rfl rfl (by kernel_rfl) (by kernel_rfl) (by kernel_rfl) (Or.inr (by decide)) (fun _ _ _ h => h) (Or.inl ⟨by rfl, fun w hSw => by go_simp⟩) hp ?_
      simp only [Act.put, List.setIfInBounds_toArray]
      dsimp only [List.set_cons_zero, List.set_cons_succ]
      refine wpZ_take (i := 13) (v := .slice o1 M2 c1) 35 rfl rfl (by kernel_rfl) (by kernel_rfl) (by kernel_rfl) (Or.inr (by decide)) (fun _ _ _ h => h) (Or.inl ⟨by rfl, fun w hSw => by have c0 := hSw.2.1; have c1 := hSw.2.2; go_simp⟩) hp ?_
      simp only [Act.put, List.setIfInBounds_toArray]
      dsimp only [List.set_cons_zero, List.set_cons_succ]
      refine wpZ_one (i := 7) (by kernel_rfl) rfl (fun K hK => ?_)
      go_simp
      refine (copyI_q M1 (.slice o0 M1 c0) (In k) hM1 wD (HZZ.out.1.below hq)).mono ?_
      rintro e w8 ⟨v1, rfl, ho8, hb8⟩
      obtain ⟨o8, c8, rfl, _⟩ := own_shape ho8
      have hq8 : Below wr.heap.size wr w8 := bStep hq hb8
      have hp8 : w8.cell? ⟨b1, 5, none⟩ = some (.slice (some ⟨sb, so, none⟩) l cL) ∧ w8.cell? ⟨sb, so + k * 2, none⟩ = some (.slice o0 M1 c0) ∧ w8.cell? ⟨sb, so + k * 2 + 1, none⟩ = some (.slice o1 M2 c1) := by
        have l1 : b1 < wD.heap.size := Nat.lt_of_lt_of_le HB1L.out hq.size
        have l2 : sb < wD.heap.size := Nat.lt_of_lt_of_le HSB.out hq.size
        rw [hb8.cell (p := ⟨b1, 5, none⟩) l1, hb8.cell (p := ⟨sb, so + k * 2, none⟩) l2, hb8.cell (p := ⟨sb, so + k * 2 + 1, none⟩) l2]
        exact hp
      have hz8 : ZsN w8 (.slice o8 M1 c8) M1 (In k) (Value.slice olv k clv).ownBlock B7 := own_ZsN ho8 (fun b hb => Nat.lt_of_lt_of_le (own_lt HLO.out.1 b hb).2 hq.size) (by have h1 := HBR.out.size; have h2 := hq.size; have h3 := HE7.out; omega)
      go_wp2_with fail
      refine hK.out _ _ (fun _ => hp8) ?_
      clear hK K hp hq ho8 hb8
      refine wpZ_one (i := 14) (by kernel_rfl) rfl (fun K hK => ?_)
      go_simp
      refine (copyI_q M2 (.slice o1 M2 c1) (Tb k) hM2 w8 (HZZ.out.2.below hq8)).mono ?_
      rintro e w9 ⟨v2, rfl, ho9, hb9⟩
      obtain ⟨o9, c9, rfl, _⟩ := own_shape ho9
      have hq9 : Below wr.heap.size wr w9 := bStep hq8 hb9
      have hp9 : w9.cell? ⟨b1, 5, none⟩ = some (.slice (some ⟨sb, so, none⟩) l cL) ∧ w9.cell? ⟨sb, so + k * 2, none⟩ = some (.slice o0 M1 c0) ∧ w9.cell? ⟨sb, so + k * 2 + 1, none⟩ = some (.slice o1 M2 c1) := by
        have l1 : b1 < w8.heap.size := Nat.lt_of_lt_of_le HB1L.out hq8.size
        have l2 : sb < w8.heap.size := Nat.lt_of_lt_of_le HSB.out hq8.size
        rw [hb9.cell (p := ⟨b1, 5, none⟩) l1, hb9.cell (p := ⟨sb, so + k * 2, none⟩) l2, hb9.cell (p := ⟨sb, so + k * 2 + 1, none⟩) l2]
        exact hp8
      have hz9 : ZsN w9 (.slice o9 M2 c9) M2 (Tb k) (Value.slice olv k clv).ownBlock B7 := own_ZsN ho9 (fun b hb => Nat.lt_of_lt_of_le (own_lt HLO.out.1 b hb).2 hq8.size) (by have h1 := HBR.out.size; have h2 := hq8.size; have h3 := HE7.out; omega)
      have hz89 := hz8.below hb9
      go_wp2_with fail
      refine hK.out _ _ (fun _ => hp9) ?_
      clear hK K hp8 hq8 ho9 hb9 hz8
      refine wpZ_take (i := 15) (v := .agg #[.slice o8 M1 c8, .slice o9 M2 c9]) 37 rfl rfl (by kernel_rfl) (by kernel_rfl) (by kernel_rfl) (Or.inr (by decide)) (fun _ _ _ h => h) (Or.inl ⟨by rfl, fun w hSw => by go_simp⟩) hp9 ?_
      simp only [Act.put, List.setIfInBounds_toArray]
      dsimp only [List.set_cons_zero, List.set_cons_succ]
      refine wpZ_one (i := 16) (by kernel_rfl) rfl (fun K hK => ?_)
      obtain ⟨b10, eb10⟩ : ∃ x, x = w9.heap.size := ⟨_, rfl⟩
      obtain ⟨w10, ew10⟩ : ∃ x : World, x = w9.alloc (.cells #[.slice o8 M1 c8, .slice o9 M2 c9] 62) := ⟨_, rfl⟩
      have hb10 : Below w9.heap.size w9 w10 := by rw [ew10]; exact bAlloc (Below.refl _ _) _
      have hr10 : Rs w10 (.slice (some ⟨b10, 0, none⟩) 1 1) 2 1 (fun _ => pC (.slice o8 M1 c8, .slice o9 M2 c9)) := by rw [ew10, eb10]; exact one_Rs2 w9 62 _ _
      have hq10 : Below wr.heap.size wr w10 := bStep hq9 hb10
      have hp10 : w10.cell? ⟨b1, 5, none⟩ = some (.slice (some ⟨sb, so, none⟩) l cL) ∧ w10.cell? ⟨sb, so + k * 2, none⟩ = some (.slice o0 M1 c0) ∧ w10.cell? ⟨sb, so + k * 2 + 1, none⟩ = some (.slice o1 M2 c1) := by
        have l1 : b1 < w9.heap.size := Nat.lt_of_lt_of_le HB1L.out hq9.size
        have l2 : sb < w9.heap.size := Nat.lt_of_lt_of_le HSB.out hq9.size
        rw [hb10.cell (p := ⟨b1, 5, none⟩) l1, hb10.cell (p := ⟨sb, so + k * 2, none⟩) l2, hb10.cell (p := ⟨sb, so + k * 2 + 1, none⟩) l2]
        exact hp9
      have hz10 := hz9.below hb10
      have hz810 := hz89.below hb10
      go_simp
      rw [← ew10, ← eb10]
      refine hK.out _ _ (fun _ => hp10) ?_
      clear hK K hp9 hq9 hz9 hz89 hb10 ew10 eb10
      refine wpZ_one (i := 17) (by kernel_rfl) rfl (fun K hK => ?_)
      rw [if_pos (show Region.wanted _ _ = true from rfl)]
      refine wp_appR w10 _ _ 24 rfl B7 62 il (.agg #[.slice none 0 0, .slice none 0 0]) 2 48 Tryz.underlying24 HIL.out HZL.out.1 HZL.out.2.1 HZL.out.2.2 rfl (by decide) _ k _ rfl (own_below HLO.out.1 hq10) 1 _ _ rfl hr10 (fun i _ j _ => pC_one _ ⟨rfl, rfl⟩ j) (by have := HLB.out; unfold maxLen; omega) (by have := HLB.out; omega) (by have h1 := HBR.out.size; have h2 := hq10.size; have h3 := HE7.out; omega) ?_
      intro v' w11 hown11 hg11 hsep11
      have hp11 : w11.cell? ⟨b1, 5, none⟩ = some (.slice (some ⟨sb, so, none⟩) l cL) ∧ w11.cell? ⟨sb, so + k * 2, none⟩ = some (.slice o0 M1 c0) ∧ w11.cell? ⟨sb, so + k * 2 + 1, none⟩ = some (.slice o1 M2 c1) := by
        have l1 : b1 < w10.heap.size := Nat.lt_of_lt_of_le HB1L.out hq10.size
        have l2 : sb < w10.heap.size := Nat.lt_of_lt_of_le HSB.out hq10.size
        have n1 : some b1 ≠ (Value.slice olv k clv).ownBlock := fun e => by have h1 := own_ge HLO.out.1 e.symm; have h2 := HB17.out; omega
        have n2 : some sb ≠ (Value.slice olv k clv).ownBlock := fun e => by have h1 := own_ge HLO.out.1 e.symm; have h2 := HSBW.out; have h3 := HWB7.out; omega
        have q1 := hg11.block b1 l1 n1
        have q2 := hg11.block sb l2 n2
        rw [World.cell?_of_block (w := w10) (a := ⟨b1, 5, none⟩) q1, World.cell?_of_block (w := w10) (a := ⟨sb, so + k * 2, none⟩) q2, World.cell?_of_block (w := w10) (a := ⟨sb, so + k * 2 + 1, none⟩) q2]
        exact hp10
      have HLN : Hid (∃ f', LkO w11 v' B7 (k + 1) f' ni nt In Tb) := by
        refine ⟨fun i => if i < k then f' i else (.slice o8 M1 c8, .slice o9 M2 c9), ?_, fun i hi => ?_⟩
        · rw [rwl_congr (G := fun i => if i < k then (fun i => pC (f' i)) i else pC (.slice o8 M1 c8, .slice o9 M2 c9)) (fun i hi j _ => by
            dsimp only
            by_cases h : i < k
            · rw [if_pos h, if_pos h]
            · rw [if_neg h, if_neg h])]
          exact hown11
        · by_cases h : i < k
          · dsimp only
            rw [if_pos h]
            have h2 := HLO.out.2 i h
            exact ⟨(h2.1.below hq10).grown hg11 hsep11, (h2.2.below hq10).grown hg11 hsep11⟩
          · have h3 : i = k := by omega
            dsimp only
            rw [if_neg h, h3, ← HE1.out, ← HE2.out]
            exact ⟨hz810.grown hg11 hsep11, hz10.grown hg11 hsep11⟩
      have HBN : Hid (Below w6.heap.size w6 w11) := (bStep HBR.out hq10).grown hg11 (bStep HBR.out hq10).size (fun j hj => by have h1 := own_ge HLO.out.1 hj; have h2 := HE7.out; omega)
      simp only [Act.put]
      refine hK.out _ _ (fun _ => hp11) ?_
      clear hK K hp10 hq10 hz10 hz810 hown11 hg11 hsep11 hr10
      refine wpZ_take (i := 18) (v := v') 3 rfl rfl (by kernel_rfl) (by kernel_rfl) (by kernel_rfl) (Or.inr (by decide)) (fun _ _ _ h => h) (Or.inl ⟨by rfl, fun w hSw => by go_simp⟩) hp11 ?_
      simp only [Act.put, List.setIfInBounds_toArray]
      (try dsimp only [List.set_cons_zero, List.set_cons_succ])
      refine wpZ_done (by kernel_rfl) ?_ _
      clear hp11
      go_wp2
      go_roundw
      case measure => simp [intOf]; omega
      case rel => exact ⟨k + 1, by go_num, hlt, HBN.out, HLN⟩
    · have hki : ¬ (k : Int) < (l : Int) := by omega
      have ek : l = k := by omega
      subst ek
      have g1 : ∀ o, wr.frozen? ⟨b1, o, none⟩ = false := fun o => by simp [World.frozen?, f1r]
      obtain ⟨w12, ew12⟩ : ∃ x : World, x = wr.setCell ⟨b1, 5, none⟩ (.slice olv l clv) := ⟨_, rfl⟩
      have f112 : w12.heap[b1]? = some (.cells #[.int .i64 F, .int .i64 A, .int .i64 I, .slice oN' n cN', .slice oG' g cG', .slice olv l clv, .slice oE m cE] 27) := by rw [ew12]; simp [World.setCell, Array.getElem?_modify, f1r]
      have k12 : KS (fun x => x = b1) wr w12 := by rw [ew12]; exact KS.setCell wr ⟨b1, 5, none⟩ _ rfl
      have ha12 : wr.setCell ⟨b1, 5, none⟩ (.slice olv l clv) = w12 := ew12.symm
      have hbw12 : Below w.heap.size w w12 := (HB6.out.trans (hbr.mono HB6.out.size)).trans (k12.below (Nat.le_trans HB6.out.size hbr.size) (fun x hx => by rw [hx]; exact HW1.out.1))
      have HB17 : Hid (b1 < B7 ∧ b2 < B7) := by rw [HE7.out]; exact ⟨(Array.getElem?_eq_some_iff.1 HF16.out).1, (Array.getElem?_eq_some_iff.1 HF26.out).1⟩
      have hlb : ∀ b o c, (Value.slice olv l clv) = .slice (some ⟨b, o, none⟩) l c → b1 < b ∧ b2 < b := fun b o c e => by
        have h1 := own_ge hlo.1 (j := b) (by rw [e]; rfl)
        have h2 := HB17.out
        omega
      have k612 : ∀ x, x < w6.heap.size → x ≠ b1 → w12.heap[x]? = w6.heap[x]? := fun x hx hn => (k12.block (Nat.lt_of_lt_of_le hx hbr.size) hn).trans (hbr.block x hx)
      have f212 : w12.heap[b2]? = some (.cells #[.int .i64 0, .int .i64 0, .int .i64 0, .slice none 0 0, .slice none 0 0, .slice none 0 0, .slice none 0 0] 27) := (k612 b2 (Array.getElem?_eq_some_iff.1 HF26.out).1 (fun e => HW1.out.2.2.1 e.symm)).trans HF26.out
      have hn12 : Rs w12 (.slice oN' n cN') 7 n (fun i => nC (T i)) := (HN6.out.below hbr).ks (fun b o c e h => by have := (HNB.out b o c e).1; omega) k12
      have hg12 : Zs w12 (.slice oG' g cG') g G := Rs.ks (Zs.below HG6.out hbr) (fun b o c e h => by have := (HGB6.out b o c e).1; omega) k12
      have hlk12 : Lks w12 (.slice olv l clv) l f' ni nt In Tb := by
        refine ⟨(own_Rs hlo.1).ks (fun b o c e h => by have := (hlb b o c e).1; omega) k12, fun i hi => ?_⟩
        have h := hlo.2 i hi
        exact ⟨Rs.ks h.1.1 (fun b o c e hb => by have h1 := (h.1.2 b o c e).2; have h2 := HB17.out; omega) k12, Rs.ks h.2.1 (fun b o c e hb => by have h1 := (h.2.2 b o c e).2; have h2 := HB17.out; omega) k12⟩
      have HLB12 : Hid (∀ i, i < l → (∀ b o c, (f' i).1 = .slice (some ⟨b, o, none⟩) (ni i) c → b1 < b ∧ b2 < b) ∧ ∀ b o c, (f' i).2 = .slice (some ⟨b, o, none⟩) (nt i) c → b1 < b ∧ b2 < b) := fun i hi => ⟨fun b o c e => by have h1 := ((hlo.2 i hi).1.2 b o c e).2; have h2 := HB17.out; omega, fun b o c e => by have h1 := ((hlo.2 i hi).2.2 b o c e).2; have h2 := HB17.out; omega⟩
      have HN12 : Hid (Rs w12 (.slice oN' n cN') 7 n (fun i => nC (T i))) := hn12
      have HG12 : Hid (Zs w12 (.slice oG' g cG') g G) := hg12
      have HL12 : Hid (Lks w12 (.slice olv l clv) l f' ni nt In Tb) := hlk12
      have HLBB : Hid (∀ b o c, (Value.slice olv l clv) = .slice (some ⟨b, o, none⟩) l c → b1 < b ∧ b2 < b) := hlb
      have HBW12 : Hid (Below w.heap.size w w12) := hbw12
      have HF112 : Hid (w12.heap[b1]? = some (.cells #[.int .i64 F, .int .i64 A, .int .i64 I, .slice oN' n cN', .slice oG' g cG', .slice olv l clv, .slice oE m cE] 27)) := f112
      have HF212 : Hid (w12.heap[b2]? = some (.cells #[.int .i64 0, .int .i64 0, .int .i64 0, .slice none 0 0, .slice none 0 0, .slice none 0 0, .slice none 0 0] 27)) := f212
      obtain ⟨w13, ew13⟩ : ∃ x : World, x = w12.alloc (.cells #[] 85) := ⟨_, rfl⟩
      have hb13 : Below w12.heap.size w12 w13 := by rw [ew13]; exact bAlloc (Below.refl _ _) _
      have HB13 : Hid (Below w12.heap.size w12 w13) := hb13
      have HO13 : Hid (w13.ownsRow w12.heap.size 85 2 (.slice (some ⟨w12.heap.size, 0, none⟩) 0 0) 0 (rwl 2 (fun _ _ => undef) 0)) := by rw [ew13]; exact own_new w12 85 2
      have HQ13 : Hid (Cls w13 (.slice oE m cE) m E) := (HCR.out w13 (bStep hbw12 hb13)).2.2.2
      have ha13 : w12.alloc (.cells #[] 85) = w13 := ew13.symm
      have f113 := (hb13.block b1 (Array.getElem?_eq_some_iff.1 f112).1).trans f112
      obtain ⟨p0, p1, p2, p3, p4, p5, p6⟩ := cells7 f113
      clear hlo hlb hlk12 hg12 hn12 k612 f212 f112 ew12 k12 hbw12 ew13 hb13 f113 hbr f1r
      go_wp2_with (first
        | (at_builtin; refine wpList_appR _ rfl _ _ 25 rfl w12.heap.size 85 ic (.agg #[.int .i64 0, .int .i64 0]) 2 16 Tryz.underlying25 HIC.out HZC.out.1 HZC.out.2.1 HZC.out.2.2 rfl (by decide) _ 0 _ rfl HO13.out m _ _ rfl HQ13.out (fun i _ j _ => pC_one _ ⟨rfl, rfl⟩ j) ?c1 ?c2 HB13.out.size ?_)
        | go_in)
      case c1 => have := HMB.out; unfold maxLen; omega
      case c2 => have := HMB.out; omega
      intro v14 w14 hown14 hg14 hsep14
      have hown : w14.ownsRow w12.heap.size 85 2 v14 m (rwl 2 (fun i => pC (.int .i64 (E i).1, .int .i64 (E i).2)) m) := by simpa only [Nat.zero_add, Nat.not_lt_zero, if_false, Nat.sub_zero] using hown14
      obtain ⟨oE', cE', hsh, _⟩ := own_shape hown
      subst hsh
      have hb14 : Below w12.heap.size w12 w14 := HB13.out.grown hg14 HB13.out.size (fun j hj => own_ge HO13.out hj)
      have heb : ∀ b o c, (Value.slice oE' m cE') = .slice (some ⟨b, o, none⟩) m c → b1 < b ∧ b2 < b := fun b o c e => by
        have h1 := own_ge hown (j := b) (by rw [e]; rfl)
        have h2 := (Array.getElem?_eq_some_iff.1 HF112.out).1
        have h3 := (Array.getElem?_eq_some_iff.1 HF212.out).1
        omega
      have f114 := (hb14.block b1 (Array.getElem?_eq_some_iff.1 HF112.out).1).trans HF112.out
      have f214 := (hb14.block b2 (Array.getElem?_eq_some_iff.1 HF212.out).1).trans HF212.out
      obtain ⟨w15, ew15⟩ : ∃ x : World, x = w14.setCell ⟨b1, 6, none⟩ (.slice oE' m cE') := ⟨_, rfl⟩
      have f115 : w15.heap[b1]? = some (.cells #[.int .i64 F, .int .i64 A, .int .i64 I, .slice oN' n cN', .slice oG' g cG', .slice olv l clv, .slice oE' m cE'] 27) := by rw [ew15]; simp [World.setCell, Array.getElem?_modify, f114]
      have k15 : KS (fun x => x = b1) w14 w15 := by rw [ew15]; exact KS.setCell w14 ⟨b1, 6, none⟩ _ rfl
      have ha15 : w14.setCell ⟨b1, 6, none⟩ (.slice oE' m cE') = w15 := ew15.symm
      have f215 := (k15.block (Array.getElem?_eq_some_iff.1 f214).1 (fun e => HW1.out.2.2.1 e.symm)).trans f214
      obtain ⟨w16, hw16, f16, k16, hth16⟩ := put_all #[.int .i64 F, .int .i64 A, .int .i64 I, .slice oN' n cN', .slice oG' g cG', .slice olv l clv, .slice oE' m cE'] f215 rfl
      have k1416 : KS (fun x => x = b1 ∨ x = b2) w14 w16 := (show KS (fun x => x = b1 ∨ x = b2) w14 w15 from ⟨k15.1, k15.2.1, k15.2.2.1, k15.2.2.2.1, fun b hb hs => k15.2.2.2.2 b hb (fun e => hs (Or.inl e))⟩).trans ⟨k16.1, k16.2.1, k16.2.2.1, k16.2.2.2.1, fun b hb hs => k16.2.2.2.2 b hb (fun e => hs (Or.inr e))⟩
      have HFIN : Hid (Below w.heap.size w w16) := (bStep HBW12.out hb14).trans (k1416.below (bStep HBW12.out hb14).size (fun x hx => by rcases hx with h | h; rw [h]; exact HW1.out.1; rw [h]; exact HW1.out.2.1))
      have HCI : Hid (Cir w16 (.slice oN' n cN') (.slice oG' g cG') (.slice olv l clv) (.slice oE' m cE') n T g G l f' ni nt In Tb m E) := by
        have hl14 := HL12.out.below hb14
        refine ⟨(HN12.out.below hb14).ks (fun b o c e h => by have := HNB.out b o c e; omega) k1416, Rs.ks (Zs.below HG12.out hb14) (fun b o c e h => by have := HGB6.out b o c e; omega) k1416, ⟨hl14.1.ks (fun b o c e h => by have := HLBB.out b o c e; omega) k1416, fun i hi => ?_⟩, Rs.ks (own_Rs hown) (fun b o c e h => by have := heb b o c e; omega) k1416⟩
        exact ⟨Rs.ks (hl14.2 i hi).1 (fun b o c e h => by have := (HLB12.out i hi).1 b o c e; omega) k1416, Rs.ks (hl14.2 i hi).2 (fun b o c e h => by have := (HLB12.out i hi).2 b o c e; omega) k1416⟩
      have HF115 : Hid (w15.heap[b1]? = some (.cells #[.int .i64 F, .int .i64 A, .int .i64 I, .slice oN' n cN', .slice oG' g cG', .slice olv l clv, .slice oE' m cE'] 27)) := f115
      have HF216 : Hid (w16.heap[b2]? = some (.cells #[.int .i64 F, .int .i64 A, .int .i64 I, .slice oN' n cN', .slice oG' g cG', .slice olv l clv, .slice oE' m cE'] 27)) := f16
      have HTH : Hid (w15.there b2 0 7) := hth16
      have HW16 : Hid (w15.setCells b2 0 (#[.int .i64 F, .int .i64 A, .int .i64 I, .slice oN' n cN', .slice oG' g cG', .slice olv l clv, .slice oE' m cE'] : Array Value).toList = w16) := hw16
      have z6 := (cells7 f114).2.2.2.2.2.2
      have g14 : ∀ o, w14.frozen? ⟨b1, o, none⟩ = false := fun o => by simp [World.frozen?, f114]
      clear hown14 hg14 hsep14 hown hb14 heb f114 f214 ew15 f115 k15 f215 hw16 f16 k16 hth16 k1416 p0 p1 p2 p3 p4 p5 p6 ha12 ha13
      go_wp2_with (first
        | (refine wpList_load_row rfl 27 _ rfl b1 rfl 27 #[.int .i64 F, .int .i64 A, .int .i64 I, .slice oN' n cN', .slice oG' g cG', .slice olv l clv, .slice oE' m cE'] (0, 0) _ HF115.out cirUnd rfl cirSize ?_; simp only [Act.put])
        | (refine wpList_store_mid rfl 27 _ _ rfl b2 0 #[.int .i64 F, .int .i64 A, .int .i64 I, .slice oN' n cN', .slice oG' g cG', .slice olv l clv, .slice oE' m cE'] rfl rfl HTH.out cirSize (one7 F A I oN' oG' olv oE' n cN' g cG' l clv m cE') ?_; simp only [Act.put])
        | go_in)
      rw [HW16.out]
      go_wp2
      refine bodyPost_ret (v := .agg #[.int .i64 F, .int .i64 A, .int .i64 I, .slice oN' n cN', .slice oG' g cG', .slice olv l clv, .slice oE' m cE']) ?_ rfl ⟨oN', oG', olv, oE', cN', cG', clv, cE', f', rfl, HCI.out, HFIN.out⟩
      exact results_cell_row (fn := Tryz.f7) (p := 2) (ty := 27) rfl _ _ _ _ _ _ _ rfl HF216.out cirUnd rfl cirSize
end Go.Proofs.YtgldibfpidmfhaaGreatDoor

