/- A whole block is written; circuits in memory. No walk. -/
import Derived.Test.YtgldibfpidmfhaaGreatDoorULD
import Derived.Laws.Rows
import Derived.Deep.MidRow
namespace Go.Proofs.YtgldibfpidmfhaaGreatDoor
open Go.RowKit
theorem put_some {b : Nat} {t : TypeId} : ∀ (vs : List Value) (o : Nat) (w : World) (old : Array Value), w.heap[b]? = some (.cells old t) → o + vs.length ≤ old.size →
    ∃ new : Array Value, (w.setCells b o vs).heap[b]? = some (.cells new t) ∧ new.size = old.size ∧ (∀ j, new[j]? = if o ≤ j ∧ j < o + vs.length then vs[j - o]? else old[j]?) ∧ KS (fun x => x = b) w (w.setCells b o vs)
  | [], o, w, old, h, _ => ⟨old, h, rfl, fun j => by rw [if_neg (by simp)], KS.refl _ _⟩
  | v :: r, o, w, old, h, hl => by
    have h1 : (w.setCell ⟨b, o, none⟩ v).heap[b]? = some (.cells (old.setIfInBounds o v) t) := by simp [World.setCell, Array.getElem?_modify, h]
    obtain ⟨new, n1, n2, n3, n4⟩ := put_some r (o + 1) (w.setCell ⟨b, o, none⟩ v) (old.setIfInBounds o v) h1 (by simp at hl ⊢; omega)
    refine ⟨new, n1, by rw [n2]; simp, fun j => ?_, (KS.setCell (S := fun x => x = b) w ⟨b, o, none⟩ v rfl).trans n4⟩
    rw [n3 j]
    have hlen : (v :: r).length = r.length + 1 := rfl
    by_cases hj : j = o
    · subst hj
      rw [if_neg (by omega), if_pos (by omega), Nat.sub_self, Array.getElem?_setIfInBounds_self_of_lt (by rw [hlen] at hl; omega)]
      rfl
    · by_cases hk : o + 1 ≤ j ∧ j < o + 1 + r.length
      · rw [if_pos hk, if_pos (by omega), show j - o = (j - (o + 1)) + 1 by omega]
        rfl
      · rw [if_neg hk, if_neg (by omega), Array.getElem?_setIfInBounds_ne (fun e => hj e.symm)]
/-- A whole block is written. -/
theorem put_all {b : Nat} {t : TypeId} {w : World} {old : Array Value} (vs : Array Value) (h : w.heap[b]? = some (.cells old t)) (hl : vs.size = old.size) :
    ∃ w', w.setCells b 0 vs.toList = w' ∧ w'.heap[b]? = some (.cells vs t) ∧ KS (fun x => x = b) w w' ∧ w.there b 0 vs.size := by
  obtain ⟨new, n1, n2, n3, n4⟩ := put_some vs.toList 0 w old h (by simp; omega)
  refine ⟨_, rfl, ?_, n4, fun j hj => ?_⟩
  · rw [n1]
    congr 2
    refine Array.ext (by omega) (fun i h1 h2 => ?_)
    have h3 := n3 i
    rw [if_pos (by simp; omega), Nat.sub_zero, Array.getElem?_toList, Array.getElem?_eq_getElem h1, Array.getElem?_eq_getElem h2] at h3
    exact Option.some.inj h3
  · rw [Nat.zero_add]
    refine ⟨?_, ?_⟩
    · rw [cell_of_block h j, Array.getElem?_eq_getElem (by omega)]
      rfl
    · simp [World.frozen?, h]
/-- A circuit's four lists. -/
def Cir (w : World) (nv gv lv ev : Value) (n : Nat) (T : Nat → Int × Int × Int × Nat) (g : Nat) (G : Nat → Int) (l : Nat) (f : Nat → Value × Value) (ni nt : Nat → Nat) (In Tb : Nat → Nat → Int) (m : Nat) (E : Nat → Int × Int) : Prop :=
  Rs w nv 7 n (fun i => nC (T i)) ∧ Zs w gv g G ∧ Lks w lv l f ni nt In Tb ∧ Cls w ev m E
theorem Cir.below {w w' : World} {nv gv lv ev : Value} {n : Nat} {T : Nat → Int × Int × Int × Nat} {g : Nat} {G : Nat → Int} {l : Nat} {f : Nat → Value × Value} {ni nt : Nat → Nat} {In Tb : Nat → Nat → Int} {m : Nat} {E : Nat → Int × Int} (h : Cir w nv gv lv ev n T g G l f ni nt In Tb m E) (hb : Below w.heap.size w w') : Cir w' nv gv lv ev n T g G l f ni nt In Tb m E :=
  ⟨h.1.below hb, Zs.below h.2.1 hb, h.2.2.1.below hb, h.2.2.2.below hb⟩
/-- The numbers of a circuit are numbers of 64 bits. -/
def Rng (F A I : Int) (m : Nat) (E : Nat → Int × Int) : Prop := rng F ∧ rng A ∧ rng I ∧ ∀ j, j < m → rng (E j).1 ∧ rng (E j).2
end Go.Proofs.YtgldibfpidmfhaaGreatDoor

/- circuit.lookAt. -/
namespace Go.Proofs.YtgldibfpidmfhaaGreatDoor
open Go.RowKit
theorem cells7 {w : World} {b : Nat} {t : TypeId} {v0 v1 v2 v3 v4 v5 v6 : Value} (h : w.heap[b]? = some (.cells #[v0, v1, v2, v3, v4, v5, v6] t)) : w.cell? ⟨b, 0, none⟩ = some v0 ∧ w.cell? ⟨b, 1, none⟩ = some v1 ∧ w.cell? ⟨b, 2, none⟩ = some v2 ∧ w.cell? ⟨b, 3, none⟩ = some v3 ∧ w.cell? ⟨b, 4, none⟩ = some v4 ∧ w.cell? ⟨b, 5, none⟩ = some v5 ∧ w.cell? ⟨b, 6, none⟩ = some v6 :=
  ⟨cell_of_block h 0, cell_of_block h 1, cell_of_block h 2, cell_of_block h 3, cell_of_block h 4, cell_of_block h 5, cell_of_block h 6⟩
theorem lkUnd : Tryz.prog.underlying 133 = some (.struct (Tryz.prog.fieldsOf 133)) := by kernel_rfl
theorem lkSize : (Tryz.prog.info? 133).map (·.size) = some 8 := by kernel_rfl
/-- What lookAt answers of the circuit. -/
def lookE (cb rb : Bool) (v : Value) : Ending := if cb = false then .returned (.tuple #[.agg #[.int .i64 0, .int .i64 0, .int .i64 0, .slice none 0 0, .slice none 0 0, .slice none 0 0, .slice none 0 0, .slice none 0 0], .int .i64 110]) else if rb = false then .returned (.tuple #[.agg #[.int .i64 0, .int .i64 0, .int .i64 0, .slice none 0 0, .slice none 0 0, .slice none 0 0, .slice none 0 0, .slice none 0 0], .int .i64 120]) else .returned (.tuple #[v, .int .i64 0])
theorem chk_any (n cn : Nat) (oa : Option Addr) (T : Nat → Int × Int × Int × Nat) (F A I : Int) (hF : rng F) (hA : rng A) (hI : rng I) (w : World) (hv : Rs w (.slice oa n cn) 7 n (fun i => nC (T i))) :
    Calls Tryz.prog 103 #[.slice oa n cn, .int .i64 F, .int .i64 A, .int .i64 I] w fun e w' => e = .returned (.int .i64 (err (chkB n T F A I) 110)) ∧ Below w.heap.size w w' := by
  by_cases h : n ≤ 64
  · exact check_in n cn oa T F A I hF hA hI h w hv
  · refine (check_long n cn oa F A I (by omega) w).mono ?_
    rintro e w' ⟨rfl, rfl⟩
    refine ⟨?_, Below.refl _ _⟩
    unfold chkB
    rw [decide_eq_false h, Bool.false_and]
    rfl
theorem chkB_true {n : Nat} {T : Nat → Int × Int × Int × Nat} {F A I : Int} (h : chkB n T F A I = true) : n ≤ 64 ∧ ordB n T = true ∧ ∀ i, i < n → fitN (T i) F A I = true := by
  unfold chkB at h
  rw [Bool.and_eq_true, Bool.and_eq_true] at h
  exact ⟨of_decide_eq_true h.1, h.2.1, of_decide_eq_true h.2.2⟩
theorem one8 (F A I : Int) (oN oG oL oE : Option Addr) (n cN g cG l cL m cE Gd : Nat) : (#[.int .i64 F, .int .i64 A, .int .i64 I, .slice oN n cN, .slice oG g cG, .slice oL l cL, .slice oE m cE, .slice (some ⟨Gd, 0, none⟩) n n] : Array Value).all (·.oneCell') = true := by
  refine all_oneCell_toArray ?_
  simp only [List.forall_mem_cons]
  exact ⟨rfl, rfl, rfl, rfl, rfl, rfl, rfl, rfl, fun v hv => by cases hv⟩
theorem oneZ : (#[.int .i64 0, .int .i64 0, .int .i64 0, .slice none 0 0, .slice none 0 0, .slice none 0 0, .slice none 0 0, .slice none 0 0] : Array Value).all (·.oneCell') = true := by
  refine all_oneCell_toArray ?_
  simp only [List.forall_mem_cons]
  exact ⟨rfl, rfl, rfl, rfl, rfl, rfl, rfl, rfl, fun v hv => by cases hv⟩
theorem results_lookAt (tmps : Array Value) (w : World) (g : Nat) (cs : Array Value) (e : Value) (h2 : tmps.getD 2 undef = .pointer (some ⟨g, 0, none⟩)) (h3 : tmps.getD 3 undef = e) (hg : w.heap[g]? = some (.cells cs 133)) (hs : cs.size = 8) :
    (results Tryz.f75 tmps).run Tryz.prog w = .ok (.tuple #[.agg cs, e]) w := by
  have h2' : tmps[2]?.getD undef = .pointer (some ⟨g, 0, none⟩) := by simpa using h2
  have h3' : tmps[3]?.getD undef = e := by simpa using h3
  simp [results, h2', h3', asAddr, run_loadVar_row w g 133 133 cs (0, 0) _ hg lkUnd rfl (by rw [hs]; exact lkSize)]
def LookP (e : Ending) (w' : World) (cb rb : Bool) (F A I : Int) (oN oG oL oE : Option Addr) (n cN g cG l cL m cE : Nat) (T : Nat → Int × Int × Int × Nat) : Prop :=
  ∃ Gd, e = lookE cb rb (.agg #[.int .i64 F, .int .i64 A, .int .i64 I, .slice oN n cN, .slice oG g cG, .slice oL l cL, .slice oE m cE, .slice (some ⟨Gd, 0, none⟩) n n]) ∧ (cb = true → rb = true → Zs w' (.slice (some ⟨Gd, 0, none⟩) n n) n (dgs T n))
set_option maxHeartbeats 16000000 in
set_option maxRecDepth 100000 in
theorem lookAt_any (F A I : Int) (oN oG oL oE : Option Addr) (n cN g cG l cL m cE : Nat) (f : Nat → Value × Value) (ni nt : Nat → Nat) (In Tb : Nat → Nat → Int) (T : Nat → Int × Int × Int × Nat) (G : Nat → Int) (E : Nat → Int × Int) (hgn : g ≤ 100000000000000) (hr : Rng F A I m E) (w : World)
    (hc : Cir w (.slice oN n cN) (.slice oG g cG) (.slice oL l cL) (.slice oE m cE) n T g G l f ni nt In Tb m E) :
    Calls Tryz.prog 75 #[.agg #[.int .i64 F, .int .i64 A, .int .i64 I, .slice oN n cN, .slice oG g cG, .slice oL l cL, .slice oE m cE]] w fun e w' => LookP e w' (chkB n T F A I) (rgtB n T F A I g G l ni nt In Tb m E) F A I oN oG oL oE n cN g cG l cL m cE T ∧ Below w.heap.size w w' := by
  obtain ⟨w1, ew1⟩ : ∃ x : World, x = w.alloc (.cells #[.int .i64 F, .int .i64 A, .int .i64 I, .slice oN n cN, .slice oG g cG, .slice oL l cL, .slice oE m cE] 27) := ⟨_, rfl⟩
  have hb1 : Below w.heap.size w w1 := by rw [ew1]; exact bAlloc (Below.refl _ _) _
  obtain ⟨b1, eb1⟩ : ∃ x, x = w.heap.size := ⟨_, rfl⟩
  have f1 : w1.heap[b1]? = some (.cells #[.int .i64 F, .int .i64 A, .int .i64 I, .slice oN n cN, .slice oG g cG, .slice oL l cL, .slice oE m cE] 27) := by rw [ew1, eb1]; show (w.heap.push _)[w.heap.size]? = _; simp
  obtain ⟨b2, eb2⟩ : ∃ x, x = w.heap.size + 1 := ⟨_, rfl⟩
  have eb2' : w1.heap.size = b2 := by rw [ew1, eb2]; simp
  obtain ⟨w2, ew2⟩ : ∃ x : World, x = w1.alloc (.cells #[.int .i64 0, .int .i64 0, .int .i64 0, .slice none 0 0, .slice none 0 0, .slice none 0 0, .slice none 0 0, .slice none 0 0] 133) := ⟨_, rfl⟩
  have hb12 : Below w1.heap.size w1 w2 := by rw [ew2]; exact bAlloc (Below.refl _ _) _
  have hb2 : Below w.heap.size w w2 := bStep hb1 hb12
  have f12 := (hb12.block b1 (Array.getElem?_eq_some_iff.1 f1).1).trans f1
  have f22 : w2.heap[b2]? = some (.cells #[.int .i64 0, .int .i64 0, .int .i64 0, .slice none 0 0, .slice none 0 0, .slice none 0 0, .slice none 0 0, .slice none 0 0] 133) := by rw [ew2, ← eb2']; show (w1.heap.push _)[w1.heap.size]? = _; simp
  have HCK : Hid (Calls _ _ _ _ _) := chk_any n cN oN T F A I hr.1 hr.2.1 hr.2.2.1 w2 (hc.1.below hb2)
  have HCR : Hid (∀ w', Below w.heap.size w w' → Cir w' (.slice oN n cN) (.slice oG g cG) (.slice oL l cL) (.slice oE m cE) n T g G l f ni nt In Tb m E) := fun w' h => hc.below h
  have HRG : Hid (Rng F A I m E) := hr
  have HGN : Hid (g ≤ 100000000000000) := hgn
  obtain ⟨cb, ecb⟩ : ∃ b, b = chkB n T F A I := ⟨_, rfl⟩
  rw [← ecb] at HCK ⊢
  obtain ⟨rb, erb⟩ : ∃ b, b = rgtB n T F A I g G l ni nt In Tb m E := ⟨_, rfl⟩
  rw [← erb]
  have HCB : Hid (cb = chkB n T F A I) := ecb
  have HRB : Hid (rb = rgtB n T F A I g G l ni nt In Tb m E) := erb
  have HB2 : Hid (Below w.heap.size w w2) := hb2
  have HF1 : Hid (∀ w', Below w2.heap.size w2 w' → w'.heap[b1]? = some (.cells #[.int .i64 F, .int .i64 A, .int .i64 I, .slice oN n cN, .slice oG g cG, .slice oL l cL, .slice oE m cE] 27)) := fun w' h => (h.block b1 (Array.getElem?_eq_some_iff.1 f12).1).trans f12
  have HF2 : Hid (∀ w', Below w2.heap.size w2 w' → w'.heap[b2]? = some (.cells #[.int .i64 0, .int .i64 0, .int .i64 0, .slice none 0 0, .slice none 0 0, .slice none 0 0, .slice none 0 0, .slice none 0 0] 133)) := fun w' h => (h.block b2 (Array.getElem?_eq_some_iff.1 f22).1).trans f22
  have HWB : Hid (∀ x, x = b2 → w.heap.size ≤ x) := fun x hx => by omega
  obtain ⟨d0, d1, d2, d3, d4, d5, d6⟩ := cells7 f12
  clear hc hr hgn f1 f12 f22 hb1 hb12 hb2 ecb erb
  go_enter Tryz.func75, Tryz.ntmps75
  go_upto_region 1 with fail
  rw [← ew1, ← eb2, ← eb1, ← ew2]
  clear ew1 eb1 eb2 eb2' ew2
  go_wp2_with fail
  refine Calls.mono HCK.out ?_
  rintro e w3 ⟨rfl, hb3⟩
  clear HCK d0 d1 d2 d3 d4 d5 d6
  cases cb
  · obtain ⟨w4, hw4, f4, hk4, hth⟩ := put_all #[.int .i64 0, .int .i64 0, .int .i64 0, .slice none 0 0, .slice none 0 0, .slice none 0 0, .slice none 0 0, .slice none 0 0] (HF2.out w3 hb3) rfl
    have HB4 : Hid (Below w.heap.size w w4) := (bStep HB2.out hb3).trans (hk4.below (bStep HB2.out hb3).size HWB.out)
    have hE : err false 110 = 110 := rfl
    have HF4 : Hid (w4.heap[b2]? = some (.cells #[.int .i64 0, .int .i64 0, .int .i64 0, .slice none 0 0, .slice none 0 0, .slice none 0 0, .slice none 0 0, .slice none 0 0] 133)) := f4
    have HTH : Hid (w3.there b2 0 8) := hth
    have HW4 : Hid (w3.setCells b2 0 (#[.int .i64 0, .int .i64 0, .int .i64 0, .slice none 0 0, .slice none 0 0, .slice none 0 0, .slice none 0 0, .slice none 0 0] : Array Value).toList = w4) := hw4
    rw [hE]
    clear f4 hk4 hth hw4 hb3
    go_wp2_with (first
      | (refine wpList_store_mid rfl 133 _ _ rfl b2 0 #[.int .i64 0, .int .i64 0, .int .i64 0, .slice none 0 0, .slice none 0 0, .slice none 0 0, .slice none 0 0, .slice none 0 0] rfl rfl HTH.out lkSize oneZ ?_; simp only [Act.put])
      | go_in)
    rw [HW4.out]
    go_wp2
    exact bodyPost_ret (v := .tuple #[.agg #[.int .i64 0, .int .i64 0, .int .i64 0, .slice none 0 0, .slice none 0 0, .slice none 0 0, .slice none 0 0, .slice none 0 0], .int .i64 110]) (results_lookAt _ w4 b2 _ _ rfl rfl HF4.out rfl) rfl ⟨by unfold LookP; exact ⟨0, rfl, fun h => by cases h⟩, HB4.out⟩
  · have hE : err true 110 = 0 := rfl
    rw [hE]
    clear hE
    obtain ⟨hn64, hord, hfit⟩ := chkB_true HCB.out.symm
    have HN64 : Hid (n ≤ 64) := hn64
    have HORD : Hid (ordB n T = true) := hord
    have HB3 : Hid (Below w2.heap.size w2 w3) := hb3
    clear hn64 hord hfit hb3
    go_upto_region 3 with fail
    go_cut [4] (fun v wx => ∃ b4 Gd, v = .pointer (some ⟨b4, 0, none⟩) ∧ Below w2.heap.size w2 wx ∧ b2 < b4 ∧ b2 < Gd ∧ wx.heap[b4]? = some (.cells #[.int .i64 F, .int .i64 A, .int .i64 I, .slice oN n cN, .slice oG g cG, .slice oL l cL, .slice oE m cE, .slice (some ⟨Gd, 0, none⟩) n n] 133) ∧ Zs wx (.slice (some ⟨Gd, 0, none⟩) n n) n (dgs T n))
    case first =>
      have HL2 : Hid (b2 < w2.heap.size) := (Array.getElem?_eq_some_iff.1 (HF2.out w2 (Below.refl _ _))).1
      have HB12 : Hid (b1 < w2.heap.size) := (Array.getElem?_eq_some_iff.1 (HF1.out w2 (Below.refl _ _))).1
      have HDN : Hid (∀ w', Below w3.heap.size w3 w' → Calls Tryz.prog 104 #[.slice oN n cN] w' fun e w5 => ∃ Gd, e = .returned (.slice (some ⟨Gd, 0, none⟩) n n) ∧ w'.heap.size ≤ Gd ∧ Zs w5 (.slice (some ⟨Gd, 0, none⟩) n n) n (dgs T n) ∧ Below w'.heap.size w' w5) := fun w' h => by
        refine (degrees_any n cN oN T (by have := HN64.out; omega) w' (HCR.out w' (bStep (bStep HB2.out HB3.out) h)).1).mono ?_
        rintro e w5 ⟨⟨_, Gd, he, hgl, hbk⟩ | ⟨ho, _⟩, hb5⟩
        · exact ⟨Gd, he, hgl, hbk.Rs (by have := HN64.out; unfold maxLen; omega), hb5⟩
        · rw [HORD.out] at ho; cases ho
      refine wp_region_Z (fun w' => w'.heap[b1]? = some (.cells #[.int .i64 F, .int .i64 A, .int .i64 I, .slice oN n cN, .slice oG g cG, .slice oL l cL, .slice oE m cE] 27)) 7 (by kernel_rfl) ?_
      obtain ⟨wD, hD⟩ : ∃ z : World, z = w3.drew := ⟨_, rfl⟩
      rw [← hD]
      have hp : wD.heap[b1]? = some (.cells #[.int .i64 F, .int .i64 A, .int .i64 I, .slice oN n cN, .slice oG g cG, .slice oL l cL, .slice oE m cE] 27) := by rw [hD]; exact HF1.out w3 HB3.out
      have hq : Below w3.heap.size w3 wD := by rw [hD]; exact (Below.refl _ _).drew
      clear hD
      refine wpZ_take (i := 0) (v := .agg #[.int .i64 F, .int .i64 A, .int .i64 I, .slice oN n cN, .slice oG g cG, .slice oL l cL, .slice oE m cE]) 16 rfl rfl (by kernel_rfl) (by kernel_rfl) (by kernel_rfl) (Or.inr (by decide)) (fun _ _ _ h => h) (Or.inl ⟨by rfl, fun w hSw => by obtain ⟨d0, d1, d2, d3, d4, d5, d6⟩ := cells7 hSw; go_simp⟩) hp ?_
      simp only [Act.put, List.setIfInBounds_toArray]
      dsimp only [List.set_cons_zero, List.set_cons_succ]
      refine wpZ_take (i := 1) (v := .pointer (some ⟨b1, 3, none⟩)) 17 rfl rfl (by kernel_rfl) (by kernel_rfl) (by kernel_rfl) (Or.inr (by decide)) (fun _ _ _ h => h) (Or.inl ⟨by rfl, fun w hSw => by go_simp⟩) hp ?_
      simp only [Act.put, List.setIfInBounds_toArray]
      dsimp only [List.set_cons_zero, List.set_cons_succ]
      refine wpZ_take (i := 2) (v := .slice oN n cN) 18 rfl rfl (by kernel_rfl) (by kernel_rfl) (by kernel_rfl) (Or.inr (by decide)) (fun _ _ _ h => h) (Or.inl ⟨by rfl, fun w hSw => by obtain ⟨d0, d1, d2, d3, d4, d5, d6⟩ := cells7 hSw; go_simp⟩) hp ?_
      simp only [Act.put, List.setIfInBounds_toArray]
      dsimp only [List.set_cons_zero, List.set_cons_succ]
      refine wpZ_two (i := 3) (j := 5) (by kernel_rfl) rfl rfl (fun K hK => ?_) (fun K hK => ?_)
      · go_simp
        refine (HDN.out wD hq).mono ?_
        rintro e w5 ⟨Gd, rfl, hgl, hz5, hb5⟩
        have H2G : b2 < Gd := by have := HL2.out; have := HB3.out.size; have := hq.size; omega
        have hp5 := (hb5.block b1 (Array.getElem?_eq_some_iff.1 hp).1).trans hp
        have hm5 : Below w2.heap.size w2 w5 := bStep (bStep HB3.out hq) hb5
        go_wp2_with fail
        refine hK.out _ _ (fun _ => hp5) ?_
        clear hK K hb5 hp hq
        refine wpZ_take (i := 4) (v := .agg #[.int .i64 F, .int .i64 A, .int .i64 I, .slice oN n cN, .slice oG g cG, .slice oL l cL, .slice oE m cE, .slice (some ⟨Gd, 0, none⟩) n n]) 20 rfl rfl (by kernel_rfl) (by kernel_rfl) (by kernel_rfl) (Or.inr (by decide)) (fun _ _ _ h => h) (Or.inl ⟨by rfl, fun w hSw => by go_simp⟩) hp5 ?_
        simp only [Act.put, List.setIfInBounds_toArray]
        dsimp only [List.set_cons_zero, List.set_cons_succ]
        refine wpZ_one (i := 5) (by kernel_rfl) rfl (fun K hK => ?_)
        obtain ⟨b4, eb4⟩ : ∃ x, x = w5.heap.size := ⟨_, rfl⟩
        obtain ⟨w6, ew6⟩ : ∃ x : World, x = w5.alloc (.cells #[.int .i64 0, .int .i64 0, .int .i64 0, .slice none 0 0, .slice none 0 0, .slice none 0 0, .slice none 0 0, .slice none 0 0] 133) := ⟨_, rfl⟩
        have hb6 : Below w5.heap.size w5 w6 := by rw [ew6]; exact bAlloc (Below.refl _ _) _
        have f6 : w6.heap[b4]? = some (.cells #[.int .i64 0, .int .i64 0, .int .i64 0, .slice none 0 0, .slice none 0 0, .slice none 0 0, .slice none 0 0, .slice none 0 0] 133) := by rw [ew6, eb4]; show (w5.heap.push _)[w5.heap.size]? = _; simp
        have hp6 := (hb6.block b1 (Array.getElem?_eq_some_iff.1 hp5).1).trans hp5
        have hm6 := bStep hm5 hb6
        have hz6 : Zs w6 (.slice (some ⟨Gd, 0, none⟩) n n) n (dgs T n) := hz5.below hb6
        have HGD : ¬ Gd = b4 := fun e => by
          rcases hz5 with ⟨h, _⟩ | ⟨b, o, c, h, _, _, hl, _⟩
          · cases h
          · cases h; omega
        have H24 : b2 < b4 := by have := HL2.out; have := hm5.size; omega
        have HLW : w2.heap.size ≤ b4 := by have := hm5.size; omega
        go_simp
        rw [← ew6, ← eb4]
        refine hK.out _ _ (fun _ => hp6) ?_
        clear hK K ew6 eb4 hb6 hp5 hm5 hz5
        refine wpZ_one (i := 6) (by kernel_rfl) rfl (fun K hK => ?_)
        rw [if_pos (show Region.wanted _ _ = true from rfl)]
        obtain ⟨w8, hw8, f8, hk8, hth⟩ := put_all #[.int .i64 F, .int .i64 A, .int .i64 I, .slice oN n cN, .slice oG g cG, .slice oL l cL, .slice oE m cE, .slice (some ⟨Gd, 0, none⟩) n n] f6 rfl
        refine wp_store_mid 133 _ _ rfl b4 0 #[.int .i64 F, .int .i64 A, .int .i64 I, .slice oN n cN, .slice oG g cG, .slice oL l cL, .slice oE m cE, .slice (some ⟨Gd, 0, none⟩) n n] rfl rfl hth lkSize (one8 F A I oN oG oL oE n cN g cG l cL m cE Gd) ?_
        rw [hw8]
        have hp8 : w8.heap[b1]? = some (.cells #[.int .i64 F, .int .i64 A, .int .i64 I, .slice oN n cN, .slice oG g cG, .slice oL l cL, .slice oE m cE] 27) := (hk8.block (Array.getElem?_eq_some_iff.1 hp6).1 (fun e => by have := HB12.out; omega)).trans hp6
        have hm8 : Below w2.heap.size w2 w8 := hm6.trans (hk8.below hm6.size (fun x hx => by rw [hx]; exact HLW))
        have hz8 : Zs w8 (.slice (some ⟨Gd, 0, none⟩) n n) n (dgs T n) := hz6.ks (fun b o c e h => by cases e; exact HGD h) hk8
        simp only [Act.put]
        refine hK.out _ _ (fun _ => hp8) ?_
        refine wpZ_done (by kernel_rfl) ?_ _
        have HM : Hid (Below w2.heap.size w2 w8) := hm8
        clear hK K hw8 hk8 hth hp8 hp6 hm6 hm8 f6
        go_wp2_with fail
        go_meet
        exact ⟨b4, Gd, rfl, HM.out, H24, H2G, f8, hz8⟩
      · obtain ⟨b4, eb4⟩ : ∃ x, x = wD.heap.size := ⟨_, rfl⟩
        obtain ⟨w5, ew5⟩ : ∃ x : World, x = wD.alloc (.cells #[.int .i64 0, .int .i64 0, .int .i64 0, .slice none 0 0, .slice none 0 0, .slice none 0 0, .slice none 0 0, .slice none 0 0] 133) := ⟨_, rfl⟩
        have hb5 : Below wD.heap.size wD w5 := by rw [ew5]; exact bAlloc (Below.refl _ _) _
        have f5 : w5.heap[b4]? = some (.cells #[.int .i64 0, .int .i64 0, .int .i64 0, .slice none 0 0, .slice none 0 0, .slice none 0 0, .slice none 0 0, .slice none 0 0] 133) := by rw [ew5, eb4]; show (wD.heap.push _)[wD.heap.size]? = _; simp
        have hp5 := (hb5.block b1 (Array.getElem?_eq_some_iff.1 hp).1).trans hp
        have hq5 : Below w3.heap.size w3 w5 := bStep hq hb5
        have H24 : b2 < b4 := by have := HL2.out; have := HB3.out.size; have := hq.size; omega
        have HLW : w2.heap.size ≤ b4 := by have := HB3.out.size; have := hq.size; omega
        go_simp
        rw [← ew5, ← eb4]
        refine hK.out _ _ (fun _ => hp5) ?_
        clear hK K ew5 eb4 hb5 hp hq
        refine wpZ_one (i := 3) (by kernel_rfl) rfl (fun K hK => ?_)
        go_simp
        refine (HDN.out w5 hq5).mono ?_
        rintro e w6 ⟨Gd, rfl, hgl, hz6, hb6⟩
        have hp6 := (hb6.block b1 (Array.getElem?_eq_some_iff.1 hp5).1).trans hp5
        have f6 := (hb6.block b4 (Array.getElem?_eq_some_iff.1 f5).1).trans f5
        have hm6 : Below w2.heap.size w2 w6 := bStep (bStep HB3.out hq5) hb6
        have H2G : b2 < Gd := by have := HL2.out; have := HB3.out.size; have := hq5.size; omega
        have HGD : ¬ Gd = b4 := fun e => by have := (Array.getElem?_eq_some_iff.1 f5).1; omega
        go_wp2_with fail
        refine hK.out _ _ (fun _ => hp6) ?_
        clear hK K hb6 hp5 hq5 f5 hgl
        refine wpZ_take (i := 4) (v := .agg #[.int .i64 F, .int .i64 A, .int .i64 I, .slice oN n cN, .slice oG g cG, .slice oL l cL, .slice oE m cE, .slice (some ⟨Gd, 0, none⟩) n n]) 20 rfl rfl (by kernel_rfl) (by kernel_rfl) (by kernel_rfl) (Or.inr (by decide)) (fun _ _ _ h => h) (Or.inl ⟨by rfl, fun w hSw => by go_simp⟩) hp6 ?_
        simp only [Act.put, List.setIfInBounds_toArray]
        dsimp only [List.set_cons_zero, List.set_cons_succ]
        refine wpZ_one (i := 6) (by kernel_rfl) rfl (fun K hK => ?_)
        rw [if_pos (show Region.wanted _ _ = true from rfl)]
        obtain ⟨w8, hw8, f8, hk8, hth⟩ := put_all #[.int .i64 F, .int .i64 A, .int .i64 I, .slice oN n cN, .slice oG g cG, .slice oL l cL, .slice oE m cE, .slice (some ⟨Gd, 0, none⟩) n n] f6 rfl
        refine wp_store_mid 133 _ _ rfl b4 0 #[.int .i64 F, .int .i64 A, .int .i64 I, .slice oN n cN, .slice oG g cG, .slice oL l cL, .slice oE m cE, .slice (some ⟨Gd, 0, none⟩) n n] rfl rfl hth lkSize (one8 F A I oN oG oL oE n cN g cG l cL m cE Gd) ?_
        rw [hw8]
        have hp8 : w8.heap[b1]? = some (.cells #[.int .i64 F, .int .i64 A, .int .i64 I, .slice oN n cN, .slice oG g cG, .slice oL l cL, .slice oE m cE] 27) := (hk8.block (Array.getElem?_eq_some_iff.1 hp6).1 (fun e => by have := HB12.out; omega)).trans hp6
        have hm8 : Below w2.heap.size w2 w8 := hm6.trans (hk8.below hm6.size (fun x hx => by rw [hx]; exact HLW))
        have hz8 : Zs w8 (.slice (some ⟨Gd, 0, none⟩) n n) n (dgs T n) := hz6.ks (fun b o c e h => by cases e; exact HGD h) hk8
        simp only [Act.put]
        refine hK.out _ _ (fun _ => hp8) ?_
        refine wpZ_done (by kernel_rfl) ?_ _
        have HM : Hid (Below w2.heap.size w2 w8) := hm8
        clear hK K hw8 hk8 hth hp8 hp6 hm6 hm8 f6
        go_wp2_with fail
        go_meet
        exact ⟨b4, Gd, rfl, HM.out, H24, H2G, f8, hz8⟩
    case rest =>
    obtain ⟨b4, Gd, rfl, hm, h24, h2g, f4, hz⟩ := hcut
    have HM : Hid (Below w2.heap.size w2 wc) := hm
    have HF4 : Hid (wc.heap[b4]? = some (.cells #[.int .i64 F, .int .i64 A, .int .i64 I, .slice oN n cN, .slice oG g cG, .slice oL l cL, .slice oE m cE, .slice (some ⟨Gd, 0, none⟩) n n] 133)) := f4
    have HZ4 : Hid (Zs wc (.slice (some ⟨Gd, 0, none⟩) n n) n (dgs T n)) := hz
    have HRT : Hid (Calls Tryz.prog 105 #[.agg #[.int .i64 F, .int .i64 A, .int .i64 I, .slice oN n cN, .slice oG g cG, .slice oL l cL, .slice oE m cE, .slice (some ⟨Gd, 0, none⟩) n n]] wc fun e w' => e = .returned (.bool rb) ∧ Below wc.heap.size wc w') := by
      have h := HCR.out wc (bStep HB2.out hm)
      rw [HRB.out]
      exact right_in F A I oN oG oL oE (some ⟨Gd, 0, none⟩) n cN g cG l cL m cE n f ni nt In Tb T G E (by have := HN64.out; omega) HGN.out HORD.out HRG.out.1 HRG.out.2.1 HRG.out.2.2.1 HRG.out.2.2.2 wc h.1 h.2.1 h.2.2.1 h.2.2.2 hz
    obtain ⟨d0, d1, d2, d3, d4, d5, d6, d7⟩ := cells8 f4
    have H2G : Hid (b2 < Gd) := h2g
    clear hm f4 hz h24 h2g
    go_wp2_with fail
    refine HRT.out.mono ?_
    rintro e w5 ⟨rfl, hb5⟩
    have hm5 : Below w2.heap.size w2 w5 := bStep HM.out hb5
    have f45 := (hb5.block b4 (Array.getElem?_eq_some_iff.1 HF4.out).1).trans HF4.out
    have hz5 : Zs w5 (.slice (some ⟨Gd, 0, none⟩) n n) n (dgs T n) := HZ4.out.below hb5
    clear d0 d1 d2 d3 d4 d5 d6 d7 HRT hb5
    cases rb
    · obtain ⟨w6, hw6, f6, hk6, hth⟩ := put_all #[.int .i64 0, .int .i64 0, .int .i64 0, .slice none 0 0, .slice none 0 0, .slice none 0 0, .slice none 0 0, .slice none 0 0] (HF2.out w5 hm5) rfl
      have HB6 : Hid (Below w.heap.size w w6) := (bStep HB2.out hm5).trans (hk6.below (bStep HB2.out hm5).size HWB.out)
      have HF6 : Hid (w6.heap[b2]? = some (.cells #[.int .i64 0, .int .i64 0, .int .i64 0, .slice none 0 0, .slice none 0 0, .slice none 0 0, .slice none 0 0, .slice none 0 0] 133)) := f6
      have HTH : Hid (w5.there b2 0 8) := hth
      have HW6 : Hid (w5.setCells b2 0 (#[.int .i64 0, .int .i64 0, .int .i64 0, .slice none 0 0, .slice none 0 0, .slice none 0 0, .slice none 0 0, .slice none 0 0] : Array Value).toList = w6) := hw6
      clear f6 hk6 hth hw6 hm5 f45 hz5
      go_wp2_with (first
        | (refine wpList_store_mid rfl 133 _ _ rfl b2 0 #[.int .i64 0, .int .i64 0, .int .i64 0, .slice none 0 0, .slice none 0 0, .slice none 0 0, .slice none 0 0, .slice none 0 0] rfl rfl HTH.out lkSize oneZ ?_; simp only [Act.put])
        | go_in)
      rw [HW6.out]
      go_wp2
      exact bodyPost_ret (v := .tuple #[.agg #[.int .i64 0, .int .i64 0, .int .i64 0, .slice none 0 0, .slice none 0 0, .slice none 0 0, .slice none 0 0, .slice none 0 0], .int .i64 120]) (results_lookAt _ w6 b2 _ _ rfl rfl HF6.out rfl) rfl ⟨by unfold LookP; exact ⟨0, rfl, fun _ h => by cases h⟩, HB6.out⟩
    · obtain ⟨w6, hw6, f6, hk6, hth⟩ := put_all #[.int .i64 F, .int .i64 A, .int .i64 I, .slice oN n cN, .slice oG g cG, .slice oL l cL, .slice oE m cE, .slice (some ⟨Gd, 0, none⟩) n n] (HF2.out w5 hm5) rfl
      have HB6 : Hid (Below w.heap.size w w6) := (bStep HB2.out hm5).trans (hk6.below (bStep HB2.out hm5).size HWB.out)
      have HF6 : Hid (w6.heap[b2]? = some (.cells #[.int .i64 F, .int .i64 A, .int .i64 I, .slice oN n cN, .slice oG g cG, .slice oL l cL, .slice oE m cE, .slice (some ⟨Gd, 0, none⟩) n n] 133)) := f6
      have HTH : Hid (w5.there b2 0 8) := hth
      have HW6 : Hid (w5.setCells b2 0 (#[.int .i64 F, .int .i64 A, .int .i64 I, .slice oN n cN, .slice oG g cG, .slice oL l cL, .slice oE m cE, .slice (some ⟨Gd, 0, none⟩) n n] : Array Value).toList = w6) := hw6
      have HF5 : Hid (w5.heap[b4]? = some (.cells #[.int .i64 F, .int .i64 A, .int .i64 I, .slice oN n cN, .slice oG g cG, .slice oL l cL, .slice oE m cE, .slice (some ⟨Gd, 0, none⟩) n n] 133)) := f45
      have HG2 : Hid (¬ Gd = b2) := by show ¬ Gd = b2; have := H2G.out; omega
      have HZ6 : Hid (Zs w6 (.slice (some ⟨Gd, 0, none⟩) n n) n (dgs T n)) := hz5.ks (fun b o c e h => by cases e; exact HG2.out h) hk6
      clear f6 hk6 hth hw6 hm5 f45 hz5
      go_wp2_with (first
        | (refine wpList_load_row rfl 133 _ rfl b4 rfl 133 #[.int .i64 F, .int .i64 A, .int .i64 I, .slice oN n cN, .slice oG g cG, .slice oL l cL, .slice oE m cE, .slice (some ⟨Gd, 0, none⟩) n n] (0, 0) _ HF5.out lkUnd rfl lkSize ?_; simp only [Act.put])
        | (refine wpList_store_mid rfl 133 _ _ rfl b2 0 #[.int .i64 F, .int .i64 A, .int .i64 I, .slice oN n cN, .slice oG g cG, .slice oL l cL, .slice oE m cE, .slice (some ⟨Gd, 0, none⟩) n n] rfl rfl HTH.out lkSize (one8 F A I oN oG oL oE n cN g cG l cL m cE Gd) ?_; simp only [Act.put])
        | go_in)
      rw [HW6.out]
      go_wp2
      exact bodyPost_ret (v := .tuple #[.agg #[.int .i64 F, .int .i64 A, .int .i64 I, .slice oN n cN, .slice oG g cG, .slice oL l cL, .slice oE m cE, .slice (some ⟨Gd, 0, none⟩) n n], .int .i64 0]) (results_lookAt _ w6 b2 _ _ rfl rfl HF6.out rfl) rfl ⟨by unfold LookP; exact ⟨Gd, rfl, fun _ _ => HZ6.out⟩, HB6.out⟩
end Go.Proofs.YtgldibfpidmfhaaGreatDoor

/- circuit.Check, Degree, Rows. -/
namespace Go.Proofs.YtgldibfpidmfhaaGreatDoor
open Go.RowKit
def cirE (cb rb : Bool) : Int := if cb = false then 110 else if rb = false then 120 else 0
set_option maxHeartbeats 8000000 in
set_option maxRecDepth 100000 in
theorem cCheck_any (F A I : Int) (oN oG oL oE : Option Addr) (n cN g cG l cL m cE : Nat) (f : Nat → Value × Value) (ni nt : Nat → Nat) (In Tb : Nat → Nat → Int) (T : Nat → Int × Int × Int × Nat) (G : Nat → Int) (E : Nat → Int × Int) (hgn : g ≤ 100000000000000) (hr : Rng F A I m E) (w : World)
    (hc : Cir w (.slice oN n cN) (.slice oG g cG) (.slice oL l cL) (.slice oE m cE) n T g G l f ni nt In Tb m E) :
    Calls Tryz.prog 71 #[.agg #[.int .i64 F, .int .i64 A, .int .i64 I, .slice oN n cN, .slice oG g cG, .slice oL l cL, .slice oE m cE]] w fun e w' => e = .returned (.int .i64 (cirE (chkB n T F A I) (rgtB n T F A I g G l ni nt In Tb m E))) ∧ Below w.heap.size w w' := by
  obtain ⟨w1, ew1⟩ : ∃ x : World, x = w.alloc (.cells #[.int .i64 F, .int .i64 A, .int .i64 I, .slice oN n cN, .slice oG g cG, .slice oL l cL, .slice oE m cE] 27) := ⟨_, rfl⟩
  have hb1 : Below w.heap.size w w1 := by rw [ew1]; exact bAlloc (Below.refl _ _) _
  obtain ⟨b1, eb1⟩ : ∃ x, x = w.heap.size := ⟨_, rfl⟩
  have f1 : w1.heap[b1]? = some (.cells #[.int .i64 F, .int .i64 A, .int .i64 I, .slice oN n cN, .slice oG g cG, .slice oL l cL, .slice oE m cE] 27) := by rw [ew1, eb1]; show (w.heap.push _)[w.heap.size]? = _; simp
  have HLA : Hid (Calls _ _ _ _ _) := lookAt_any F A I oN oG oL oE n cN g cG l cL m cE f ni nt In Tb T G E hgn hr w1 (hc.below hb1)
  have HCR : Hid (∀ w', Below w.heap.size w w' → Cir w' (.slice oN n cN) (.slice oG g cG) (.slice oL l cL) (.slice oE m cE) n T g G l f ni nt In Tb m E) := fun w' h => hc.below h
  obtain ⟨cb, ecb⟩ : ∃ b, b = chkB n T F A I := ⟨_, rfl⟩
  obtain ⟨rb, erb⟩ : ∃ b, b = rgtB n T F A I g G l ni nt In Tb m E := ⟨_, rfl⟩
  rw [← ecb, ← erb] at HLA
  rw [← ecb, ← erb]
  have HCB : Hid (cb = chkB n T F A I) := ecb
  have HRB : Hid (rb = rgtB n T F A I g G l ni nt In Tb m E) := erb
  have HB1 : Hid (Below w.heap.size w w1) := hb1
  obtain ⟨d0, d1, d2, d3, d4, d5, d6⟩ := cells7 f1
  clear hc hr hgn f1 hb1 ecb erb
  go_enter Tryz.func71, Tryz.ntmps71
  go_upto_region 1 with fail
  rw [← ew1, ← eb1]
  clear ew1 eb1
  go_wp2_with fail
  refine Calls.mono HLA.out ?_
  rintro e w3 ⟨hl, hb3⟩
  unfold LookP at hl
  obtain ⟨Gd, rfl, _⟩ := hl
  clear d0 d1 d2 d3 d4 d5 d6 HLA
  cases cb
  · have HBF : Hid (Below w.heap.size w (w3.alloc (.cells #[.int .i64 0, .int .i64 0, .int .i64 0, .slice none 0 0, .slice none 0 0, .slice none 0 0, .slice none 0 0, .slice none 0 0] 133))) := bAlloc (bStep HB1.out hb3) _
    rw [show lookE false rb (.agg #[.int .i64 F, .int .i64 A, .int .i64 I, .slice oN n cN, .slice oG g cG, .slice oL l cL, .slice oE m cE, .slice (some ⟨Gd, 0, none⟩) n n]) = .returned (.tuple #[.agg #[.int .i64 0, .int .i64 0, .int .i64 0, .slice none 0 0, .slice none 0 0, .slice none 0 0, .slice none 0 0, .slice none 0 0], .int .i64 110]) from rfl]
    clear hb3
    go_wp2
    go_ret
    exact ⟨rfl, HBF.out⟩
  · cases rb
    · have HBF : Hid (Below w.heap.size w (w3.alloc (.cells #[.int .i64 0, .int .i64 0, .int .i64 0, .slice none 0 0, .slice none 0 0, .slice none 0 0, .slice none 0 0, .slice none 0 0] 133))) := bAlloc (bStep HB1.out hb3) _
      rw [show lookE true false (.agg #[.int .i64 F, .int .i64 A, .int .i64 I, .slice oN n cN, .slice oG g cG, .slice oL l cL, .slice oE m cE, .slice (some ⟨Gd, 0, none⟩) n n]) = .returned (.tuple #[.agg #[.int .i64 0, .int .i64 0, .int .i64 0, .slice none 0 0, .slice none 0 0, .slice none 0 0, .slice none 0 0, .slice none 0 0], .int .i64 120]) from rfl]
      clear hb3
      go_wp2
      go_ret
      exact ⟨rfl, HBF.out⟩
    · have HBF : Hid (Below w.heap.size w (w3.alloc (.cells #[.int .i64 F, .int .i64 A, .int .i64 I, .slice oN n cN, .slice oG g cG, .slice oL l cL, .slice oE m cE, .slice (some ⟨Gd, 0, none⟩) n n] 133))) := bAlloc (bStep HB1.out hb3) _
      rw [show lookE true true (.agg #[.int .i64 F, .int .i64 A, .int .i64 I, .slice oN n cN, .slice oG g cG, .slice oL l cL, .slice oE m cE, .slice (some ⟨Gd, 0, none⟩) n n]) = .returned (.tuple #[.agg #[.int .i64 F, .int .i64 A, .int .i64 I, .slice oN n cN, .slice oG g cG, .slice oL l cL, .slice oE m cE, .slice (some ⟨Gd, 0, none⟩) n n], .int .i64 0]) from rfl]
      clear hb3
      go_wp2
      go_ret
      exact ⟨rfl, HBF.out⟩
theorem rgtB_true {n : Nat} {T : Nat → Int × Int × Int × Nat} {F A I : Int} {g : Nat} {G : Nat → Int} {l : Nat} {ni nt : Nat → Nat} {In Tb : Nat → Nat → Int} {m : Nat} {E : Nat → Int × Int} (h : rgtB n T F A I g G l ni nt In Tb m E = true) :
    colB F A I = true ∧ gatB n g G = true ∧ lksB n T l ni nt In Tb = true ∧ eqB F A I m E = true ∧ dgL (dgs T n) G g l m ni nt In Tb l ≤ 8 := by
  unfold rgtB at h
  rw [Bool.and_eq_true, Bool.and_eq_true, Bool.and_eq_true, Bool.and_eq_true] at h
  exact ⟨h.1, h.2.1, h.2.2.1, h.2.2.2.1, of_decide_eq_true h.2.2.2.2⟩
end Go.Proofs.YtgldibfpidmfhaaGreatDoor

