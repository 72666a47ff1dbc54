/- Lists of faults; gateFaults of sheet's worked. -/
import Derived.Test.YtgldibfpidmfhaaGreatDoorUST
import Derived.Test.YtgldibfpidmfhaaGreatDoorURE
import Derived.Lib.AppendZeros
namespace Go.Proofs.YtgldibfpidmfhaaGreatDoor
open Go.RowKit
theorem bLe {m b : Nat} {w w' : World} (_ : Below m w w') (hm : m ≤ b) (hb : b ≤ w'.heap.size) : m ≤ w'.heap.size := Nat.le_trans hm hb
theorem ftInf : ∃ i : TypeInfo, Tryz.prog.info? 58 = some i ∧ i.zero = some (.agg #[.int .i64 0, .int .i64 0, .int .i64 0]) ∧ i.size = 3 ∧ i.bytes = 24 := by
  have h : (Tryz.prog.info? 58).map (fun i => (i.zero, i.size, i.bytes)) = some (some (.agg #[.int .i64 0, .int .i64 0, .int .i64 0]), 3, 24) := by kernel_rfl
  obtain ⟨i, hi, he⟩ := Option.map_eq_some_iff.mp h
  simp only [Prod.mk.injEq] at he
  exact ⟨i, hi, he.1, he.2.1, he.2.2⟩
/-- A list of faults of one's own. -/
def FlO (w : World) (v : Value) (base : Nat) (xs : List (Int × Int × Int)) : Prop := w.ownsRow base 58 3 v xs.length (rwl 3 (fun i => qC (xs.getD i (0, 0, 0))) xs.length)
theorem FlO.below {w w' : World} {v : Value} {base : Nat} {xs : List (Int × Int × Int)} (h : FlO w v base xs) (hb : Below w.heap.size w w') : FlO w' v base xs := own_below h hb
theorem FlO.nil (w : World) (base : Nat) : FlO w (.slice none 0 0) base [] := own_nil w base 58 3
theorem FlO.push {w : World} {v : Value} {base N : Nat} {xs : List (Int × Int × Int)} {q : Int × Int × Int} {Fq : Nat → Nat → Value} (hN : N = xs.length) (hF : Fq = fun ii => qC (xs.getD ii (0, 0, 0))) (h : w.ownsRow base 58 3 v (N + 1) (rwl 3 (fun i => if i < N then Fq i else qC q) (N + 1))) : FlO w v base (xs ++ [q]) := by
  subst hN hF
  have hl : (xs ++ [q]).length = xs.length + 1 := by simp
  refine own_same h hl (fun i hi j _ => ?_)
  by_cases h1 : i < xs.length
  · rw [if_pos h1]
    (try dsimp only)
    rw [List.getD_eq_getElem?_getD, List.getD_eq_getElem?_getD, List.getElem?_append_left h1]
  · rw [if_neg h1]
    (try dsimp only)
    rw [List.getD_eq_getElem?_getD, List.getElem?_append_right (by omega), show i - xs.length = 0 by omega]
    rfl
/-- What is answered: a list of faults. -/
def FlE (e : Ending) (w w' : World) (xs : List (Int × Int × Int)) : Prop := ∃ v, e = .returned v ∧ FlO w' v w.heap.size xs
/-- A gate's faults in c rows from a on. -/
def gtRow (V : Nat → Nat → Nat) (i node a : Nat) : Nat → List (Int × Int × Int)
  | 0 => []
  | c + 1 => gtRow V i node a c ++ (if V (a + c) node = 0 then [] else [(1, (i : Int), ((a + c : Nat) : Int))])
/-- The faults of the first gates. -/
def gtL (V : Nat → Nat → Nat) (G : Nat → Int) (R : Nat → Int × Int) : Nat → List (Int × Int × Int)
  | 0 => []
  | i + 1 => gtL V G R i ++ gtRow V i (G i).toNat (R i).1.toNat ((R i).2.toNat - (R i).1.toNat)
theorem gtRow_len (V : Nat → Nat → Nat) (i node a : Nat) : ∀ c, (gtRow V i node a c).length ≤ c
  | 0 => Nat.le_refl _
  | c + 1 => by
    have ih := gtRow_len V i node a c
    show (gtRow V i node a c ++ _).length ≤ c + 1
    rw [List.length_append]
    split
    · simp; omega
    · simp; omega
theorem gtL_len (V : Nat → Nat → Nat) (G : Nat → Int) (R : Nat → Int × Int) (u : Nat) : ∀ i, (∀ j, j < i → (R j).2.toNat ≤ u) → (gtL V G R i).length ≤ i * u
  | 0, _ => by show 0 ≤ _; omega
  | i + 1, h => by
    have ih := gtL_len V G R u i (fun j hj => h j (by omega))
    have h1 := gtRow_len V i (G i).toNat (R i).1.toNat ((R i).2.toNat - (R i).1.toNat)
    have h2 := h i (by omega)
    show (gtL V G R i ++ _).length ≤ (i + 1) * u
    rw [List.length_append, Nat.succ_mul]
    omega
theorem gtRow_step {V : Nat → Nat → Nat} {i node a r : Nat} (h : a ≤ r) : gtRow V i node a (r + 1 - a) = gtRow V i node a (r - a) ++ (if V r node = 0 then [] else [(1, (i : Int), ((r : Nat) : Int))]) := by
  rw [show r + 1 - a = (r - a) + 1 by omega]
  show gtRow V i node a (r - a) ++ (if V (a + (r - a)) node = 0 then [] else [(1, (i : Int), ((a + (r - a) : Nat) : Int))]) = _
  rw [show a + (r - a) = r by omega]
theorem rw_range (T : Nat → Int × Int × Int × Nat) (k : Int) (root : Nat) : 0 ≤ (rwE true T k root).1 ∧ (rwE true T k root).1 ≤ (rwE true T k root).2 ∧ (rwE true T k root).2 ≤ usN k := by
  have h1 := ((bkN_le T root (bkN T root (cnN T root (root + 1))) (cnN T root (root + 1))).1 (Int.le_refl _)).1
  have h2 := ((fwN_le T root (fwN T root (cnN T root (root + 1))) (cnN T root (root + 1))).1 (Int.le_refl _)).1
  have h3 := (usK_range k).1
  have h4 : usN k = usK k := rfl
  unfold rwE rwP
  rw [if_pos rfl]
  split
  · exact ⟨Int.le_refl _, Int.le_refl _, by rw [h4]; exact h3⟩
  · next h => exact ⟨h1, by show bkN _ _ _ ≤ usK k - _; omega, by show usK k - _ ≤ _; omega⟩
set_option maxHeartbeats 4000000 in
set_option maxRecDepth 100000 in
theorem gateF_f (F A I : Int) (oN oG oL oE oa ob oc od : Option Addr) (n cN g cG l cL m cE na ca nb cb nc cc nd cd : Nat) (kn : Nat) (f : Nat → Value × Value) (ni nt : Nat → Nat) (In Tb : Nat → Nat → Int) (T : Nat → Int × Int × Int × Nat) (G : Nat → Int) (E : Nat → Int × Int) (La Lb Lc : Nat → Nat) (Ea Eb Ec : Nat → Nat → Nat) (s un Gm : Nat) (X : Nat → Nat) (hun : un = 2 ^ kn - 4) (h3 : 3 ≤ kn) (h5 : kn ≤ 5) (hck : chkB n T F A I = true) (hrt : rgtB n T F A I g G l ni nt In Tb m E = true) (hr : Rng F A I m E) (w : World) (hci : Cir w (.slice oN n cN) (.slice oG g cG) (.slice oL l cL) (.slice oE m cE) n T g G l f ni nt In Tb m E) (hwk : Wk w Gm X un s na La Ea nb Lb Eb nc Lc Ec kn T n) :
    Calls Tryz.prog 25 #[.agg #[.int .i64 F, .int .i64 A, .int .i64 I, .slice oN n cN, .slice oG g cG, .slice oL l cL, .slice oE m cE, .slice oa na ca, .slice ob nb cb, .slice oc nc cc, .slice od nd cd, .int .i64 (kn : Int), .int .i64 (s : Int), .slice (some ⟨Gm, 0, none⟩) un un]] w fun e w' => FlE e w w' (gtL (fun (r : Nat) i => rowV s na La Ea nb Lb Eb nc Lc Ec kn (r : Int) T n i) G (fun i => rwE true T (kn : Int) (G i).toNat) g) ∧ Below w.heap.size w w' := by
  obtain ⟨ifa, hif, hf0, hf1, hf2⟩ := ftInf
  have HIF := (show Hid _ from hif); have HZF := (show Hid _ from And.intro hf0 (And.intro hf1 hf2)); clear hif hf0 hf1 hf2
  obtain ⟨B1, eB1⟩ : ∃ b, b = w.heap.size := ⟨_, rfl⟩
  obtain ⟨w1, hw1⟩ : ∃ z : World, z = w.alloc (.cells #[.int .i64 F, .int .i64 A, .int .i64 I, .slice oN n cN, .slice oG g cG, .slice oL l cL, .slice oE m cE, .slice oa na ca, .slice ob nb cb, .slice oc nc cc, .slice od nd cd, .int .i64 (kn : Int), .int .i64 (s : Int), .slice (some ⟨Gm, 0, none⟩) un un] 69) := ⟨_, rfl⟩
  have hb1 : Below w.heap.size w w1 := by rw [hw1]; exact bAlloc (Below.refl _ _) _
  have f1 : w1.heap[B1]? = some (.cells #[.int .i64 F, .int .i64 A, .int .i64 I, .slice oN n cN, .slice oG g cG, .slice oL l cL, .slice oE m cE, .slice oa na ca, .slice ob nb cb, .slice oc nc cc, .slice od nd cd, .int .i64 (kn : Int), .int .i64 (s : Int), .slice (some ⟨Gm, 0, none⟩) un un] 69) := by rw [hw1, eB1]; show (w.heap.push _)[w.heap.size]? = _; simp
  have HFA : Hid (∀ w', Below w1.heap.size w1 w' → w'.cell? ⟨B1, 0, none⟩ = some (.int .i64 F) ∧ w'.cell? ⟨B1, 1, none⟩ = some (.int .i64 A) ∧ w'.cell? ⟨B1, 2, none⟩ = some (.int .i64 I) ∧ w'.cell? ⟨B1, 3, none⟩ = some (.slice oN n cN) ∧ w'.cell? ⟨B1, 4, none⟩ = some (.slice oG g cG) ∧ w'.cell? ⟨B1, 5, none⟩ = some (.slice oL l cL) ∧ w'.cell? ⟨B1, 6, none⟩ = some (.slice oE m cE) ∧ w'.cell? ⟨B1, 7, none⟩ = some (.slice oa na ca) ∧ w'.cell? ⟨B1, 8, none⟩ = some (.slice ob nb cb) ∧ w'.cell? ⟨B1, 9, none⟩ = some (.slice oc nc cc) ∧ w'.cell? ⟨B1, 10, none⟩ = some (.slice od nd cd) ∧ w'.cell? ⟨B1, 11, none⟩ = some (.int .i64 (kn : Int)) ∧ w'.cell? ⟨B1, 12, none⟩ = some (.int .i64 (s : Int)) ∧ w'.cell? ⟨B1, 13, none⟩ = some (.slice (some ⟨Gm, 0, none⟩) un un)) := fun w' h => by
    have h1 := (h.block B1 (Array.getElem?_eq_some_iff.1 f1).1).trans f1
    exact ⟨by simp [World.cell?, h1], by simp [World.cell?, h1], by simp [World.cell?, h1], by simp [World.cell?, h1], by simp [World.cell?, h1], by simp [World.cell?, h1], by simp [World.cell?, h1], by simp [World.cell?, h1], by simp [World.cell?, h1], by simp [World.cell?, h1], by simp [World.cell?, h1], by simp [World.cell?, h1], by simp [World.cell?, h1], by simp [World.cell?, h1]⟩
  have HB1 : Hid (Below w.heap.size w w1) := hb1
  obtain ⟨B, eB⟩ : ∃ b, b = w1.heap.size := ⟨_, rfl⟩
  have HEB : Hid (B = w1.heap.size) := eB
  obtain ⟨hn64, hord, hfit⟩ := chkB_true hck
  obtain ⟨_, hgt, _, _, _⟩ := rgtB_true hrt
  obtain ⟨hg16, hgr⟩ := gatB_true hgt
  have h28 : un ≤ 28 := by
    have hk : kn = 3 ∨ kn = 4 ∨ kn = 5 := by omega
    rcases hk with rfl | rfl | rfl <;> omega
  obtain ⟨V, eV⟩ : ∃ V : Nat → Nat → Nat, V = fun (r : Nat) i => rowV s na La Ea nb Lb Eb nc Lc Ec kn (r : Int) T n i := ⟨_, rfl⟩
  rw [← eV]
  have HVL : Hid (∀ r i, V r i < 115792089237316195423570985008687907853269984665640564039457584007913129639936) := fun r i => by rw [eV]; exact vls_lt _ _ _ _ _
  obtain ⟨R, eR⟩ : ∃ R : Nat → Int × Int, R = fun i => rwE true T (kn : Int) (G i).toNat := ⟨_, rfl⟩
  rw [← eR]
  have HRR : Hid (∀ i, 0 ≤ (R i).1 ∧ (R i).1 ≤ (R i).2 ∧ (R i).2 ≤ (un : Int)) := fun i => by
    have h := rw_range T (kn : Int) (G i).toNat
    rw [usN_k kn h3 h5, ← hun] at h
    rw [eR]
    exact h
  have HRW : Hid (∀ i w', i < g → Below w1.heap.size w1 w' → Calls Tryz.prog 47 #[.agg #[.int .i64 F, .int .i64 A, .int .i64 I, .slice oN n cN, .slice oG g cG, .slice oL l cL, .slice oE m cE], .int .i64 (kn : Int), .int .i64 (G i)] w' fun e w'' => e = .returned (.tuple #[.int .i64 (R i).1, .int .i64 (R i).2]) ∧ Below w'.heap.size w' w'') := fun i w' hi h => by
    have hc := cRows_any F A I oN oG oL oE n cN g cG l cL m cE f ni nt In Tb T G E (kn : Int) (G i) (by omega) hr w' (hci.below (bStep hb1 h))
    have hp : plB n (G i) = true := decide_eq_true (hgr i hi)
    rw [hck, hrt, hp] at hc
    rw [eR]
    exact hc
  have HGT : Hid (∀ w', Below w1.heap.size w1 w' → Zs w' (.slice oG g cG) g G) := fun w' h => Zs.below hci.2.1 (bStep hb1 h)
  have HGR : Hid (∀ i, i < g → 0 ≤ G i ∧ G i < (n : Int)) := hgr
  have HWK : Hid (∀ r i w', r < un → i < n → Below w1.heap.size w1 w' → w'.cell? ⟨Gm, r, none⟩ = some (.slice (some ⟨X r, 0, none⟩) n n) ∧ w'.cell? ⟨X r, i * 4, none⟩ = some (.int .u64 ((limb 0 (V r i) : Nat) : Int)) ∧ w'.cell? ⟨X r, i * 4 + 1, none⟩ = some (.int .u64 ((limb 1 (V r i) : Nat) : Int)) ∧ w'.cell? ⟨X r, i * 4 + 2, none⟩ = some (.int .u64 ((limb 2 (V r i) : Nat) : Int)) ∧ w'.cell? ⟨X r, i * 4 + 3, none⟩ = some (.int .u64 ((limb 3 (V r i) : Nat) : Int))) := fun r i w' hr hi h => by
    have hb := bStep hb1 h
    have c0 := (hwk.1.belowAll hb).cell r hr 0 (by decide)
    rw [Nat.mul_one, Nat.add_zero] at c0
    have hx := (hwk.2 r hr).belowAll hb
    have e0 := hx.cell i hi 0 (by decide)
    rw [Nat.add_zero] at e0
    rw [eV]
    exact ⟨c0, e0, hx.cell i hi 1 (by decide), hx.cell i hi 2 (by decide), hx.cell i hi 3 (by decide)⟩
  have HG16 : Hid (g ≤ 16) := hg16
  have HFL0 : Hid (FlO w1 (.slice none 0 0) B (gtL V G R 0)) := FlO.nil w1 B
  obtain ⟨q0, q1, q2, q3, q4, q5, q6, q7, q8, q9, q10, q11, q12, q13⟩ := HFA.out w1 (Below.refl _ _)
  clear hck hrt hr hci hwk hb1 f1 eV eR hgt hgr hg16 hfit hord eB hun h3 h5
  go_enter Tryz.func25, Tryz.ntmps25
  go_upto_region 2 with fail
  rw [← hw1]
  (try rw [← eB1])
  clear hw1 eB1
  go_wp2
  clear q0 q1 q2 q3 q4 q5 q6 q7 q8 q9 q10 q11 q12 q13
  go_loopw [14, 3] (fun iv lv wr => ∃ i : Nat, iv = .int .i64 (i : Int) ∧ i ≤ g ∧ Below w1.heap.size w1 wr ∧ Hid (FlO wr lv B (gtL V G R i))) (fun iv _ _ => g - (intOf iv).toNat)
  case atStart => exact ⟨0, rfl, Nat.zero_le _, Below.refl _ _, HFL0⟩
  case round =>
    obtain ⟨i, rfl, hi, hbr, HO⟩ := hrel
    clear HFL0
    have HBR : Hid (Below w1.heap.size w1 wr) := hbr
    obtain ⟨ol, cl, hsh, _⟩ := own_shape HO.out
    subst hsh
    by_cases hlt : i < g
    · have hii : (i : Int) < (g : Int) := by omega
      have hi0 : (0 : Int) ≤ (i : Int) := by omega
      have hgs : g ≤ 16 := HG16.out
      obtain ⟨nd', hnd⟩ : ∃ x : Nat, G i = (x : Int) := ⟨(G i).toNat, by have := HGR.out i hlt; omega⟩
      have hndn : nd' < n := by have := HGR.out i hlt; omega
      obtain ⟨ra, hra⟩ : ∃ x : Nat, (R i).1 = (x : Int) := ⟨(R i).1.toNat, by have := HRR.out i; omega⟩
      obtain ⟨rb, hrb⟩ : ∃ x : Nat, (R i).2 = (x : Int) := ⟨(R i).2.toNat, by have := HRR.out i; omega⟩
      have hab : ra ≤ rb ∧ rb ≤ un := by have := HRR.out i; omega
      have HC : Hid (Calls Tryz.prog 47 #[.agg #[.int .i64 F, .int .i64 A, .int .i64 I, .slice oN n cN, .slice oG g cG, .slice oL l cL, .slice oE m cE], .int .i64 (kn : Int), .int .i64 (nd' : Int)] wr fun e w'' => e = .returned (.tuple #[.int .i64 (ra : Int), .int .i64 (rb : Int)]) ∧ Below wr.heap.size wr w'') := by
        have h := HRW.out i wr hlt hbr
        rw [hra, hrb, hnd] at h
        exact h
      have HGL : Hid (gtL V G R (i + 1) = gtL V G R i ++ gtRow V i nd' ra (rb - ra)) := by
        show gtL V G R i ++ gtRow V i (G i).toNat (R i).1.toNat ((R i).2.toNat - (R i).1.toNat) = _
        rw [hnd, hra, hrb]; rfl
      have HLI : Hid ((gtL V G R i).length ≤ 1000) := by
        have h := gtL_len V G R 28 i (fun j _ => by have := HRR.out j; omega)
        show (gtL V G R i).length ≤ 1000
        omega
      rcases HGT.out wr hbr with ⟨_, hh⟩ | ⟨ab, ao, c', hv, _, _, lab, hcell⟩
      · omega
      cases hv
      have a0 := hcell i hlt 0 (by decide)
      dsimp only at a0
      rw [hnd, Nat.mul_one, Nat.add_zero] at a0
      obtain ⟨q0, q1, q2, q3, q4, q5, q6, q7, q8, q9, q10, q11, q12, q13⟩ := HFA.out wr hbr
      clear hra hrb hnd hcell lab hbr
      go_wp2_with fail
      refine Calls.mono HC.out ?_
      rintro e w3 ⟨rfl, hb3⟩
      have HB3 : Hid (Below w1.heap.size w1 w3) := bStep HBR.out hb3
      have HO3 : Hid (FlO w3 (.slice ol (gtL V G R i).length cl) B (gtL V G R i ++ gtRow V i nd' ra 0)) := by
        show FlO _ _ _ (gtL V G R i ++ [])
        rw [List.append_nil]
        exact HO.out.below hb3
      clear hb3 HC a0 q0 q1 q2 q3 q4 q5 q6 q7 q8 q9 q10 q11 q12 q13 HO HBR
      go_wp2
      go_loopw [8, 3] (fun iv lv wx => ∃ r : Nat, iv = .int .i64 (r : Int) ∧ ra ≤ r ∧ r ≤ rb ∧ Below w1.heap.size w1 wx ∧ Hid (FlO wx lv B (gtL V G R i ++ gtRow V i nd' ra (r - ra)))) (fun iv _ _ => rb - (intOf iv).toNat)
      case atStart => exact ⟨ra, rfl, Nat.le_refl _, hab.1, HB3.out, by rw [Nat.sub_self]; exact HO3⟩
      case round =>
        obtain ⟨r, rfl, hra, hrb, hbx, HO⟩ := hrel
        clear HO3 HB3
        have HBX : Hid (Below w1.heap.size w1 wr) := hbx
        obtain ⟨ol, cl, hsh, _⟩ := own_shape HO.out
        subst hsh
        by_cases hrl : r < rb
        · have hri : (r : Int) < (rb : Int) := by omega
          have hr0 : (0 : Int) ≤ (r : Int) := by omega
          have hru : r < un := by omega
          have hrui : (r : Int) < (un : Int) := by omega
          have hnd0 : (0 : Int) ≤ (nd' : Int) := by omega
          have hndi : (nd' : Int) < (n : Int) := by omega
          obtain ⟨q0, q1, q2, q3, q4, q5, q6, q7, q8, q9, q10, q11, q12, q13⟩ := HFA.out wr hbx
          obtain ⟨c0, e0, e1, e2, e3⟩ := HWK.out r nd' wr hru hndn hbx
          have hstep := gtRow_step (V := V) (i := i) (node := nd') hra
          obtain ⟨x, ex⟩ : ∃ x, x = V r nd' := ⟨_, rfl⟩
          have hxl : x < 115792089237316195423570985008687907853269984665640564039457584007913129639936 := by rw [ex]; exact HVL.out r nd'
          rw [← ex] at e0 e1 e2 e3 hstep
          have hne := fun w => neqZ x hxl w
          have HST : Hid (gtRow V i nd' ra (r + 1 - ra) = gtRow V i nd' ra (r - ra) ++ (if x = 0 then [] else [(1, (i : Int), ((r : Nat) : Int))])) := hstep
          clear hbx ex hxl hstep
          by_cases hx0 : x = 0
          · have hd0 : decide (x = 0) = true := decide_eq_true hx0
            have HON : Hid (FlO wr (.slice ol (gtL V G R i ++ gtRow V i nd' ra (r - ra)).length cl) B (gtL V G R i ++ gtRow V i nd' ra (r + 1 - ra))) := by rw [HST.out, if_pos hx0, List.append_nil]; exact HO.out
            clear HO hx0
            go_wp2
            go_roundw
            case measure => simp [intOf]; omega
            case rel => exact ⟨r + 1, by go_num, by omega, hrl, HBX.out, HON⟩
          · have hd0 : decide (x = 0) = false := decide_eq_false hx0
            have HX0 : Hid (¬ x = 0) := hx0
            have HLN : Hid ((gtL V G R i ++ gtRow V i nd' ra (r - ra)).length ≤ 1000000) := by
              show (gtL V G R i ++ gtRow V i nd' ra (r - ra)).length ≤ 1000000
              rw [List.length_append]
              have := gtRow_len V i nd' ra (r - ra)
              have := HLI.out
              omega
            have HBZ : Hid (B ≤ wr.heap.size) := by show B ≤ wr.heap.size; rw [HEB.out]; exact HBX.out.size
            clear hx0
            obtain ⟨wa, ewa⟩ : ∃ x : World, x = wr.alloc (.cells #[.int .i64 1, .int .i64 (i : Int), .int .i64 (r : Int)] 58) := ⟨_, rfl⟩
            have hA : Below wr.heap.size wr wa := by rw [ewa]; exact bAlloc (Below.refl _ _) _
            have hR1 : Rs wa (.slice (some ⟨wr.heap.size, 0, none⟩) 1 1) 3 1 (fun _ => qC (1, (i : Int), (r : Int))) := by rw [ewa]; exact one_Rs3 wr 58 (1, (i : Int), (r : Int))
            have hal : wr.alloc (.cells #[.int .i64 1, .int .i64 (i : Int), .int .i64 (r : Int)] 58) = wa := ewa.symm
            obtain ⟨N, eN⟩ : ∃ N, N = (gtL V G R i ++ gtRow V i nd' ra (r - ra)).length := ⟨_, rfl⟩
            obtain ⟨Fq, eFq⟩ : ∃ f : Nat → Nat → Value, f = fun ii => qC ((gtL V G R i ++ gtRow V i nd' ra (r - ra)).getD ii (0, 0, 0)) := ⟨_, rfl⟩
            have HO2 : Hid (wa.ownsRow B 58 3 (.slice ol N cl) N (rwl 3 Fq N)) := by rw [eN, eFq]; exact own_below HO.out hA
            have HFQ : Hid (Fq = fun ii => qC ((gtL V G R i ++ gtRow V i nd' ra (r - ra)).getD ii (0, 0, 0))) := eFq
            have hNB : N ≤ 1000000 := by rw [eN]; exact HLN.out
            have HSZ : Hid (B ≤ wa.heap.size) := Nat.le_trans HBZ.out hA.size
            have HBA : Hid (Below wr.heap.size wr wa) := hA
            have HEN : Hid (N = (gtL V G R i ++ gtRow V i nd' ra (r - ra)).length) := eN
            rw [← eN]
            clear eN ewa hA eFq
            go_wp2_with (first
              | (at_builtin; refine wpList_appR _ rfl _ _ 36 rfl B 58 ifa (.agg #[.int .i64 0, .int .i64 0, .int .i64 0]) 3 24 Tryz.underlying36 HIF.out HZF.out.1 HZF.out.2.1 HZF.out.2.2 rfl (by decide) _ N _ rfl HO2.out 1 _ _ rfl hR1 (fun i _ j _ => qC_one _ _) ?c1 ?c2 HSZ.out ?_)
              | go_in)
            case c1 => unfold maxLen; omega
            case c2 => omega
            intro v7 w7 hown7 hg7 hsep7
            have HO7 : Hid (FlO w7 v7 B (gtL V G R i ++ gtRow V i nd' ra (r - ra) ++ [(1, (i : Int), (r : Int))])) := FlO.push HEN.out HFQ.out hown7
            have HK7 : Hid (∀ m u, Below m u wr → m ≤ B → Below m u w7) := fun m u h hm => (h.trans (Below.mono HBA.out (bLe h hm HBZ.out))).grown hg7 (Nat.le_trans (bLe h hm HBZ.out) HBA.out.size) (fun j hj => Nat.le_trans hm (own_ge HO2.out hj))
            clear hown7 hg7 hsep7 hR1 hal HO2 hNB HSZ HBA HEN HFQ
            have HON : Hid (FlO w7 v7 B (gtL V G R i ++ gtRow V i nd' ra (r + 1 - ra))) := by rw [HST.out, if_neg HX0.out, ← List.append_assoc]; exact HO7.out
            have HBN : Hid (Below w1.heap.size w1 w7) := HK7.out _ _ HBX.out (by rw [HEB.out]; exact Nat.le_refl _)
            clear HO7 HK7 HO
            go_wp2
            go_roundw
            case measure => simp [intOf]; omega
            case rel => exact ⟨r + 1, by go_num, by omega, hrl, HBN.out, HON⟩
        · have hri : ¬ (r : Int) < (rb : Int) := by omega
          have er : r = rb := by omega
          have HON : Hid (FlO wr (.slice ol (gtL V G R i ++ gtRow V i nd' ra (r - ra)).length cl) B (gtL V G R (i + 1))) := by rw [HGL.out, ← er]; exact HO.out
          clear er hbx HO
          go_wp2
          go_roundw
          case measure => simp [intOf]; omega
          case rel => exact ⟨i + 1, by go_num, hlt, HBX.out, HON⟩
    · have hii : ¬ (i : Int) < (g : Int) := by omega
      have ei : i = g := by omega
      subst ei
      have HFN : Hid (FlE (.returned (.slice ol (gtL V G R i).length cl)) w wr (gtL V G R i)) := ⟨_, rfl, own_base HO.out (by have := HEB.out; have := HB1.out.size; omega)⟩
      have HBF : Hid (Below w.heap.size w wr) := bStep HB1.out hbr
      clear hbr HO
      go_wp2
      go_ret
      exact ⟨HFN.out, HBF.out⟩
end Go.Proofs.YtgldibfpidmfhaaGreatDoor

/- slices.Grow of none, slices.Concat of lists of faults. -/
namespace Go.Proofs.YtgldibfpidmfhaaGreatDoor
open Go.RowKit
set_option maxHeartbeats 4000000 in
set_option maxRecDepth 100000 in
theorem grow_nil (N : Nat) (hN : N ≤ 1000000) (w : World) :
    Calls Tryz.prog 46 #[.slice none 0 0, .int .i64 (N : Int)] w fun e w' => FlE e w w' [] ∧ Below w.heap.size w w' := by
  obtain ⟨ifa, hif, hf0, hf1, hf2⟩ := ftInf
  have h1 : ¬ ((N : Int) < 0) := by omega
  have h3 : wrap64 (N : Int) = (N : Int) := by unfold wrap64; omega
  by_cases h0 : N = 0
  · subst h0
    have HF : Hid (FlE (.returned (.slice none 0 0)) w w []) := ⟨_, rfl, FlO.nil w _⟩
    clear hif hf0 hf1 hf2
    go_enter Tryz.func46, Tryz.ntmps46
    go_wp2
    go_ret
    exact ⟨HF.out, Below.refl _ _⟩
  · have h4 : (N : Int) > 0 := by omega
    have hrz : ∀ ty, (Builtin.append_ #[36, 3] ty #[.slice none 0 0, .int .i64 (N : Int)]).run Tryz.prog w = .ok (.slice (some ⟨w.heap.size, 0, none⟩) N (grownCap w N 0 58)) (w.drew.alloc (.cells (Builtin.zeroCells (Value.agg #[.int .i64 0, .int .i64 0, .int .i64 0]).cells N ++ Builtin.zeroCells (Value.agg #[.int .i64 0, .int .i64 0, .int .i64 0]).cells (grownCap w N 0 58 - N)) 58)) := fun ty =>
      Lib.run_append_nil_zeros w 36 3 ty 58 ifa _ .i64 .i64 Tryz.underlying36 Tryz.underlying3 hif hf0 N (by omega) (by rw [hf1]; decide) (by omega) (by rw [hf2]; omega)
    have hGn : N ≤ grownCap w N 0 58 := grownCap_ge w _ _ _
    have hGm := grownCap_le_maxLen w N 0 58 (by unfold maxLen; omega)
    obtain ⟨K0, eK⟩ : ∃ K0, K0 = grownCap w N 0 58 := ⟨_, rfl⟩
    rw [← eK] at hrz hGn hGm
    obtain ⟨cs, ecs⟩ : ∃ cs, cs = Builtin.zeroCells (Value.agg #[.int .i64 0, .int .i64 0, .int .i64 0]).cells N ++ Builtin.zeroCells (Value.agg #[.int .i64 0, .int .i64 0, .int .i64 0]).cells (K0 - N) := ⟨_, rfl⟩
    rw [← ecs] at hrz
    have hsz : cs.size = K0 * 3 := by
      rw [ecs, Array.size_append, size_zeroCells, size_zeroCells]
      show N * 3 + (K0 - N) * 3 = K0 * 3
      omega
    obtain ⟨w2, ew2⟩ : ∃ x : World, x = w.drew.alloc (.cells cs 58) := ⟨_, rfl⟩
    rw [← ew2] at hrz
    have HB2 : Hid (Below w.heap.size w w2) := by
      show Below w.heap.size w w2
      rw [ew2]
      exact bStep (Below.refl _ _).drew (bAlloc (Below.refl _ _) _)
    have HF : Hid (FlE (.returned (.slice (some ⟨w.heap.size, 0, none⟩) 0 K0)) w w2 []) := by
      refine ⟨_, rfl, rfl, Or.inr ⟨w.heap.size, K0, cs, rfl, Nat.le_refl _, ?_, Nat.zero_le _, hGm, hsz, rfl⟩⟩
      rw [ew2]
      show (w.heap.push _)[w.heap.size]? = _
      simp
    have hK63 : K0 ≤ 9223372036854775807 := by unfold maxLen at hGm; omega
    clear hif hf0 hf1 hf2 eK ecs hsz ew2 hGm
    go_enter Tryz.func46, Tryz.ntmps46
    go_wp2_with (at_builtin; refine Lib.wpList_append_run _ rfl _ _ _ _ rfl _ _ rfl rfl _ _ (hrz _) ?_)
    all_goals (go_ret; exact ⟨HF.out, HB2.out⟩)
/-- The first lists, one behind the other. -/
def catL (xs : Nat → List (Int × Int × Int)) : Nat → List (Int × Int × Int)
  | 0 => []
  | i + 1 => catL xs i ++ xs i
theorem catL_len {xs : Nat → List (Int × Int × Int)} (h : ∀ i, (xs i).length ≤ 100000) : ∀ i, (catL xs i).length ≤ i * 100000
  | 0 => by show 0 ≤ _; omega
  | i + 1 => by
    have ih := catL_len h i
    have h1 := h i
    show (catL xs i ++ xs i).length ≤ _
    rw [List.length_append]
    omega
theorem FlO.app {w : World} {v : Value} {base N M : Nat} {xs ys : List (Int × Int × Int)} {Fq Gq : Nat → Nat → Value} (hN : N = xs.length) (hM : M = ys.length) (hF : Fq = fun ii => qC (xs.getD ii (0, 0, 0))) (hG : Gq = fun ii => qC (ys.getD ii (0, 0, 0))) (h : w.ownsRow base 58 3 v (N + M) (rwl 3 (fun i => if i < N then Fq i else Gq (i - N)) (N + M))) : FlO w v base (xs ++ ys) := by
  subst hN hM hF hG
  have hl : (xs ++ ys).length = xs.length + ys.length := by simp
  refine own_same h hl (fun i hi j _ => ?_)
  by_cases h1 : i < xs.length
  · rw [if_pos h1]
    (try dsimp only)
    rw [List.getD_eq_getElem?_getD, List.getD_eq_getElem?_getD, List.getElem?_append_left h1]
  · rw [if_neg h1]
    (try dsimp only)
    rw [List.getD_eq_getElem?_getD, List.getD_eq_getElem?_getD, List.getElem?_append_right (by omega)]
/-- A list of faults that is there. -/
def Fs (w : World) (v : Value) (xs : List (Int × Int × Int)) : Prop := Rs w v 3 xs.length (fun i => qC (xs.getD i (0, 0, 0)))
theorem Fs.below {w w' : World} {v : Value} {xs : List (Int × Int × Int)} (h : Fs w v xs) (hb : Below w.heap.size w w') : Fs w' v xs := Rs.below h hb
theorem FlO.fs {w : World} {v : Value} {base : Nat} {xs : List (Int × Int × Int)} (h : FlO w v base xs) : Fs w v xs := own_Rs h
set_option maxHeartbeats 4000000 in
set_option maxRecDepth 100000 in
theorem concat_f (m cm : Nat) (om : Option Addr) (vs : Nat → Value) (xs : Nat → List (Int × Int × Int)) (hm : m ≤ 5) (hx : ∀ i, (xs i).length ≤ 100000) (w : World) (hv : Rs w (.slice om m cm) 1 m (fun i _ => vs i)) (hf : ∀ i, i < m → Fs w (vs i) (xs i)) :
    Calls Tryz.prog 24 #[.slice om m cm] w fun e w' => FlE e w w' (catL xs m) ∧ Below w.heap.size w w' := by
  obtain ⟨ifa, hif, hf0, hf1, hf2⟩ := ftInf
  have HIF := (show Hid _ from hif); have HZF := (show Hid _ from And.intro hf0 (And.intro hf1 hf2)); clear hif hf0 hf1 hf2
  have HLN : Hid (∀ i, i ≤ m → (catL xs i).length ≤ 500000) := fun i hi => by have := catL_len hx i; omega
  have HXL : Hid (∀ i, (xs i).length ≤ 100000) := hx
  have HAT : Hid (∀ i w', i < m → Below w.heap.size w w' → ∃ b o oi ci, om = some ⟨b, o, none⟩ ∧ vs i = .slice oi (xs i).length ci ∧ w'.cell? ⟨b, o + i, none⟩ = some (.slice oi (xs i).length ci) ∧ Fs w' (.slice oi (xs i).length ci) (xs i)) := fun i w' hi h => by
    obtain ⟨oi, ci, hs⟩ := Rs.shape (hf i hi)
    have h2 := (hf i hi).below h
    rcases hv.below h with ⟨_, h0⟩ | ⟨b, o, c, hvv, _, _, hl, hc⟩
    · omega
    cases hvv
    have a0 := hc i hi 0 (by decide)
    dsimp only at a0
    rw [Nat.add_zero, Nat.mul_one, hs] at a0
    rw [hs] at h2
    exact ⟨b, o, oi, ci, rfl, hs, a0, h2⟩
  have HGR : Hid (∀ w', Calls Tryz.prog 46 #[.slice none 0 0, .int .i64 (((catL xs m).length : Nat) : Int)] w' fun e w'' => FlE e w' w'' [] ∧ Below w'.heap.size w' w'') := fun w' => grow_nil _ (by have := HLN.out m (Nat.le_refl _); omega) w'
  clear hv hf hx
  go_enter Tryz.func24, Tryz.ntmps24
  go_wp2
  go_loop [11, 3] (fun iv sv => ∃ i : Nat, iv = .int .i64 (i : Int) ∧ i ≤ m ∧ ∃ z : Nat, sv = .int .i64 (z : Int) ∧ Hid (z = (catL xs i).length)) (fun iv _ => m - (intOf iv).toNat)
  case atStart => exact ⟨0, rfl, Nat.zero_le _, 0, rfl, rfl⟩
  case round =>
    obtain ⟨i, rfl, hi, z, rfl, HZ⟩ := hrel
    by_cases hlt : i < m
    · have hii : (i : Int) < (m : Int) := by omega
      have hi0 : (0 : Int) ≤ (i : Int) := by omega
      obtain ⟨ab, ao, oi, ci, rfl, _, a0, _⟩ := HAT.out i w hlt (Below.refl _ _)
      obtain ⟨y, ey⟩ : ∃ y, y = (xs i).length := ⟨_, rfl⟩
      rw [← ey] at a0
      have hzl : z ≤ 500000 := by rw [HZ.out]; exact HLN.out i hi
      have hyl : y ≤ 100000 := by rw [ey]; exact HXL.out i
      have HZN : Hid (z + y = (catL xs (i + 1)).length) := by
        show z + y = (catL xs i ++ xs i).length
        rw [List.length_append, HZ.out, ey]
      have hnn : ¬ ((z : Int) + (y : Int) < 0) := by omega
      clear ey HZ
      go_wp2
      go_round
      case measure => simp [intOf]; omega
      case rel => exact ⟨i + 1, by go_num, hlt, z + y, by go_num, HZN⟩
    · have hii : ¬ (i : Int) < (m : Int) := by omega
      have ei : i = m := by omega
      have HG : Hid (Calls Tryz.prog 46 #[.slice none 0 0, .int .i64 (z : Int)] w fun e w'' => FlE e w w'' [] ∧ Below w.heap.size w w'') := by rw [HZ.out, ei]; exact HGR.out w
      clear ei
      go_wp2_with fail
      refine Calls.mono HG.out ?_
      rintro e w1 ⟨⟨v1, rfl, ho1⟩, hb1⟩
      have HO1 : Hid (FlO w1 v1 w.heap.size (catL xs 0)) := ho1
      have HB1 : Hid (Below w.heap.size w w1) := hb1
      clear ho1 hb1 HG
      go_wp2
      go_loopw [27, 6] (fun iv lv wr => ∃ j : Nat, iv = .int .i64 (j : Int) ∧ j ≤ m ∧ Below w.heap.size w wr ∧ Hid (FlO wr lv w.heap.size (catL xs j))) (fun iv _ _ => m - (intOf iv).toNat)
      case atStart => exact ⟨0, rfl, Nat.zero_le _, HB1.out, HO1⟩
      case round =>
        obtain ⟨j, rfl, hj, hbr, HO⟩ := hrel
        clear HO1 HB1
        have HBR : Hid (Below w.heap.size w wr) := hbr
        obtain ⟨ol, cl, hsh, _⟩ := own_shape HO.out
        subst hsh
        by_cases hjl : j < m
        · have hji : (j : Int) < (m : Int) := by omega
          have hj0 : (0 : Int) ≤ (j : Int) := by omega
          obtain ⟨ab, ao, oi, ci, rfl, _, a0, hfs⟩ := HAT.out j wr hjl hbr
          obtain ⟨y, ey⟩ : ∃ y, y = (xs j).length := ⟨_, rfl⟩
          obtain ⟨N, eN⟩ : ∃ y, y = (catL xs j).length := ⟨_, rfl⟩
          have hyl : y ≤ 100000 := by rw [ey]; exact HXL.out j
          have hNl : N ≤ 500000 := by rw [eN]; exact HLN.out j hj
          obtain ⟨Fq, eFq⟩ : ∃ f : Nat → Nat → Value, f = fun ii => qC ((catL xs j).getD ii (0, 0, 0)) := ⟨_, rfl⟩
          obtain ⟨Gq, eGq⟩ : ∃ f : Nat → Nat → Value, f = fun ii => qC ((xs j).getD ii (0, 0, 0)) := ⟨_, rfl⟩
          have HO2 : Hid (wr.ownsRow w.heap.size 58 3 (.slice ol N cl) N (rwl 3 Fq N)) := by rw [eN, eFq]; exact HO.out
          have HR2 : Hid (Rs wr (.slice oi y ci) 3 y Gq) := by rw [ey, eGq]; exact hfs
          have HQ : Hid (N = (catL xs j).length ∧ y = (xs j).length ∧ Fq = (fun ii => qC ((catL xs j).getD ii (0, 0, 0))) ∧ Gq = fun ii => qC ((xs j).getD ii (0, 0, 0))) := ⟨eN, ey, eFq, eGq⟩
          have h1c : ∀ i, i < y → ∀ jj, jj < 3 → (Gq i jj).oneCell' = true := fun i _ jj _ => by rw [eGq]; exact qC_one _ _
          rw [← ey] at a0
          rw [← eN]
          have HSZ : Hid (w.heap.size ≤ wr.heap.size) := hbr.size
          clear ey eN eFq eGq hfs hbr HO
          go_wp2_with (first
            | (at_builtin; refine wpList_appR _ rfl _ _ 36 rfl w.heap.size 58 ifa (.agg #[.int .i64 0, .int .i64 0, .int .i64 0]) 3 24 Tryz.underlying36 HIF.out HZF.out.1 HZF.out.2.1 HZF.out.2.2 rfl (by decide) _ N _ rfl HO2.out y _ _ rfl HR2.out h1c ?c1 ?c2 HSZ.out ?_)
            | go_in)
          case c1 => unfold maxLen; omega
          case c2 => omega
          intro v7 w7 hown7 hg7 hsep7
          have HO7 : Hid (FlO w7 v7 w.heap.size (catL xs (j + 1))) := FlO.app HQ.out.1 HQ.out.2.1 HQ.out.2.2.1 HQ.out.2.2.2 hown7
          have HB7 : Hid (Below w.heap.size w w7) := HBR.out.grown hg7 HBR.out.size (fun b hb => own_ge HO2.out hb)
          clear hown7 hg7 hsep7 HO2 HR2 HQ h1c HSZ a0
          go_wp2
          go_roundw
          case measure => simp [intOf]; omega
          case rel => exact ⟨j + 1, by go_num, hjl, HB7.out, HO7⟩
        · have hji : ¬ (j : Int) < (m : Int) := by omega
          have ej : j = m := by omega
          have HFN : Hid (FlE (.returned (.slice ol (catL xs j).length cl)) w wr (catL xs m)) := ⟨_, rfl, by rw [← ej]; exact HO.out⟩
          clear ej hbr HO
          go_wp2
          go_ret
          exact ⟨HFN.out, HBR.out⟩
end Go.Proofs.YtgldibfpidmfhaaGreatDoor

