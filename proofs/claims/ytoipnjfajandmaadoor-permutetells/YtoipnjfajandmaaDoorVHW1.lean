/- PermuteTells' own function holds. -/
import Derived.Test.YtoipnjfajandmaaDoorVXB
import Derived.Test.YtoipnjfajandmaaDoorVRP2
namespace Go.Proofs.YtoipnjfajandmaaDoor
open Go.RowKit
theorem ownL_nil (w : World) (base N : Nat) (e : N = w.heap.size) (hb : base ≤ w.heap.size) : OwnL (w.alloc (.cells #[] 24)) base (.slice (some ⟨N, 0, none⟩) 0 0) [] := by
  subst e
  exact ⟨rfl, Or.inr ⟨w.heap.size, 0, #[], rfl, hb, new_blockE _ _, Nat.le_refl _, by decide, rfl, rfl⟩⟩
theorem OwnL.has {w : World} {base : Nat} {v : Value} {l : List Nat} (h : OwnL w base v l) (hne : l.length ≠ 0) : ∃ a, v.ownBlock = some a := by
  rcases h.2 with ⟨h0, h1⟩ | ⟨g, cap, cur, hL, _⟩
  · exact absurd h1 hne
  · exact ⟨g, by rw [hL]; rfl⟩
theorem map_succ (X : Nat → Nat) (i : Nat) : (List.range (i + 1)).map X = (List.range i).map X ++ [X i] := by rw [List.range_succ, List.map_append]; rfl
theorem mapR_at (X : Nat → Nat) (n i : Nat) (hi : i < n) : ((List.range n).map X).getD i 0 = X i := by
  rw [List.getD_eq_getElem?_getD, List.getElem?_map, List.getElem?_range hi]
  rfl
theorem Es.congH {w : World} {v : Value} {n n' : Nat} {f g : Nat → Nat} (h : Es w v n f) (e : n = n') (hg : ∀ i, i < n → f i = g i) : Es w v n' g := by
  subst e
  rcases h with h | ⟨b, o, c, hv, h1, h2, h3, h4⟩
  · exact Or.inl h
  · exact Or.inr ⟨b, o, c, hv, h1, h2, h3, fun i hi j hj => by rw [← hg i hi]; exact h4 i hi j hj⟩
theorem neqIn0 (X : Nat) (hX : X < 115792089237316195423570985008687907853269984665640564039457584007913129639936) (w : World) : (Op.equalIn 10000 24 (.agg #[.int .u64 ((limb 0 (X) : Nat) : Int), .int .u64 ((limb 1 (X) : Nat) : Int), .int .u64 ((limb 2 (X) : Nat) : Int), .int .u64 ((limb 3 (X) : Nat) : Int)]) (.agg #[.int .u64 0, .int .u64 0, .int .u64 0, .int .u64 0])).run Tryd.prog w = .ok (decide (X = 0)) w := by
  have h : (Op.equalIn 10000 24 (.agg #[.int .u64 ((limb 0 (X) : Nat) : Int), .int .u64 ((limb 1 (X) : Nat) : Int), .int .u64 ((limb 2 (X) : Nat) : Int), .int .u64 ((limb 3 (X) : Nat) : Int)]) (.agg #[.int .u64 ((limb 0 (0) : Nat) : Int), .int .u64 ((limb 1 (0) : Nat) : Int), .int .u64 ((limb 2 (0) : Nat) : Int), .int .u64 ((limb 3 (0) : Nat) : Int)])).run Tryd.prog w = .ok (decide (X = 0)) w := by rw [eq4_in, eq4N X 0 hX (by decide)]
  rwa [show limb 0 0 = 0 from by decide, show limb 1 0 = 0 from by decide, show limb 2 0 = 0 from by decide, show limb 3 0 = 0 from by decide] at h
theorem undSp : Tryd.prog.underlying 27 = some (.struct (Tryd.prog.fieldsOf 27)) := by kernel_rfl
theorem newsOf {w : World} {t : TypeId} {b : Nat} {cs : Array Value} (h : Lay w t b cs) (j : Nat) (u : Value) (hj : cs[j]? = some u) : w.cell? ((⟨b, 0, none⟩ : Addr).add j) = some u := by
  have hadd : (⟨b, 0, none⟩ : Addr).add j = ⟨b, j, none⟩ := by unfold Addr.add; split <;> simp_all
  rw [hadd]
  exact h.at hj
set_option maxHeartbeats 16000000 in
set_option maxRecDepth 20000 in
theorem holds_walk (s q n C cm cn T be ga : Nat) (om on : Option Addr) (F F2 : Nat → Value) (L L2 : Nat → Nat) (X Y zv : Nat → Nat → Nat) (zs : Nat → Value) (pt y0 y1 y2 y3 : Nat → Nat) (ck : Nat → List Nat) (hb : Bool) (hq : 3 ≤ q ∧ q ≤ 5) (hn : 0 < n ∧ n ≤ 8) (hC : 0 < C ∧ C ≤ 500) (hL : ∀ i, i < n → L i = 2 ^ q) (hL2 : ∀ i, i < n → L2 i = 2 ^ q)
    (hpts : ∀ w, GlobD w → Calls Tryd.prog 40 #[.int .i64 (s : Int), .int .i64 (q : Int)] w fun e w' => (∃ g, e = .returned (.tuple #[.slice (some ⟨g, 0, none⟩) (2 ^ q) (2 ^ q), .int .i64 0]) ∧ w.heap.size ≤ g ∧ BlkE w' g (2 ^ q) pt) ∧ Below w.heap.size w w')
    (hplc : ∀ r, r < 2 ^ q → ∀ w, GlobD w → Calls Tryd.prog 7 #[.int .i64 (s : Int), .int .i64 (q : Int), .agg #[.int .u64 ((limb 0 (pt r) : Nat) : Int), .int .u64 ((limb 1 (pt r) : Nat) : Int), .int .u64 ((limb 2 (pt r) : Nat) : Int), .int .u64 ((limb 3 (pt r) : Nat) : Int)]] w fun e w' => e = .returned (.tuple #[.agg #[.int .u64 ((limb 0 (y0 r) : Nat) : Int), .int .u64 ((limb 1 (y0 r) : Nat) : Int), .int .u64 ((limb 2 (y0 r) : Nat) : Int), .int .u64 ((limb 3 (y0 r) : Nat) : Int), .int .u64 ((limb 0 (y1 r) : Nat) : Int), .int .u64 ((limb 1 (y1 r) : Nat) : Int), .int .u64 ((limb 2 (y1 r) : Nat) : Int), .int .u64 ((limb 3 (y1 r) : Nat) : Int), .int .u64 ((limb 0 (y2 r) : Nat) : Int), .int .u64 ((limb 1 (y2 r) : Nat) : Int), .int .u64 ((limb 2 (y2 r) : Nat) : Int), .int .u64 ((limb 3 (y2 r) : Nat) : Int), .int .u64 ((limb 0 (y3 r) : Nat) : Int), .int .u64 ((limb 1 (y3 r) : Nat) : Int), .int .u64 ((limb 2 (y3 r) : Nat) : Int), .int .u64 ((limb 3 (y3 r) : Nat) : Int)], .int .i64 0]) ∧ Below w.heap.size w w')
    (hchk : ∀ r, r < 2 ^ q → ∀ v1 v2 v3 w, GlobD w → Es w v1 n (fun i => X i r) → Es w v2 n (fun i => Y i r) → Zs w v3 C (fun j => zv j r) (fun j => zv j ((r + 1) % 2 ^ q)) (fun j => zv j ((r + 2 ^ q - 4) % 2 ^ q)) → Calls Tryd.prog 10 #[.int .i64 (s : Int), .agg #[.int .u64 ((limb 0 (y0 r) : Nat) : Int), .int .u64 ((limb 1 (y0 r) : Nat) : Int), .int .u64 ((limb 2 (y0 r) : Nat) : Int), .int .u64 ((limb 3 (y0 r) : Nat) : Int), .int .u64 ((limb 0 (y1 r) : Nat) : Int), .int .u64 ((limb 1 (y1 r) : Nat) : Int), .int .u64 ((limb 2 (y1 r) : Nat) : Int), .int .u64 ((limb 3 (y1 r) : Nat) : Int), .int .u64 ((limb 0 (y2 r) : Nat) : Int), .int .u64 ((limb 1 (y2 r) : Nat) : Int), .int .u64 ((limb 2 (y2 r) : Nat) : Int), .int .u64 ((limb 3 (y2 r) : Nat) : Int), .int .u64 ((limb 0 (y3 r) : Nat) : Int), .int .u64 ((limb 1 (y3 r) : Nat) : Int), .int .u64 ((limb 2 (y3 r) : Nat) : Int), .int .u64 ((limb 3 (y3 r) : Nat) : Int)], v1, v2, v3, .agg #[.int .u64 ((limb 0 (be) : Nat) : Int), .int .u64 ((limb 1 (be) : Nat) : Int), .int .u64 ((limb 2 (be) : Nat) : Int), .int .u64 ((limb 3 (be) : Nat) : Int)], .agg #[.int .u64 ((limb 0 (ga) : Nat) : Int), .int .u64 ((limb 1 (ga) : Nat) : Int), .int .u64 ((limb 2 (ga) : Nat) : Int), .int .u64 ((limb 3 (ga) : Nat) : Int)]] w fun e w' => (∃ v, e = .returned v ∧ Es w' v (ck r).length (fun i => (ck r).getD i 0)) ∧ Below w.heap.size w w')
    (hck : ∀ r, 0 < (ck r).length ∧ (ck r).length ≤ 2001 ∧ ∀ i, (ck r).getD i 0 < 115792089237316195423570985008687907853269984665640564039457584007913129639936) (hhb : hb = true ↔ ∀ r, r < 2 ^ q → ∀ v, v ∈ ck r → v = 0)
    (w : World) (hg : GlobD w) (h1 : Tab w (.slice om n cm) n F L X) (h2 : Tab w (.slice on n cn) n F2 L2 Y) (hS : SlT 32 w T C zs) (hz : ∀ j, j < C → Es w (zs j) (2 ^ q) (zv j)) :
    Calls Tryd.prog 17 #[.int .i64 (s : Int), .int .i64 (q : Int), .slice om n cm, .slice on n cn, .slice (some ⟨T, 0, none⟩) C C, .agg #[.int .u64 ((limb 0 (be) : Nat) : Int), .int .u64 ((limb 1 (be) : Nat) : Int), .int .u64 ((limb 2 (be) : Nat) : Int), .int .u64 ((limb 3 (be) : Nat) : Int)], .agg #[.int .u64 ((limb 0 (ga) : Nat) : Int), .int .u64 ((limb 1 (ga) : Nat) : Int), .int .u64 ((limb 2 (ga) : Nat) : Int), .int .u64 ((limb 3 (ga) : Nat) : Int)]] w fun e w' => e = .returned (.bool hb) ∧ Below w.heap.size w w' := by
  have HG : Hid (GlobD w) := hg
  have hk0 : ¬ (q : Int) < 0 := by omega
  have hP8 : 8 ≤ 2 ^ q ∧ 2 ^ q ≤ 32 := ⟨Nat.pow_le_pow_right (n := 2) (by decide) hq.1, Nat.pow_le_pow_right (n := 2) (by decide) hq.2⟩
  obtain ⟨P, eP⟩ : ∃ P, P = 2 ^ q := ⟨_, rfl⟩
  have e1 : (2 : Int) ^ q = ((P : Nat) : Int) := by rw [eP]; simp
  rw [← eP] at hP8 hL hL2 hpts hplc hchk hhb hz
  have hkw : IntKind.i64.wrap ((2 : Int) ^ q) = (P : Int) := by rw [e1]; exact wrap_i64_nat P (by omega)
  have hPw : IntKind.i64.wrap (P : Int) = (P : Int) := wrap_i64_nat P (by omega)
  have hcv : IntKind.u64.wrap (q : Int) = (q : Int) := by rw [IntKind.wrap_u64]; omega
  have hmin : min q 64 = q := by omega
  have HPB : Hid (8 ≤ P ∧ P ≤ 32 ∧ 0 < n ∧ n ≤ 8 ∧ 0 < C ∧ C ≤ 500) := by show _ ∧ _; omega
  have HPT : Hid (∀ w, GlobD w → _) := hpts
  have HPL : Hid (∀ r, r < P → ∀ w, GlobD w → _) := hplc
  have HCK : Hid (∀ r, r < P → ∀ v1 v2 v3 w, GlobD w → _) := hchk
  have HCL : Hid (∀ r, 0 < (ck r).length ∧ (ck r).length ≤ 2001 ∧ ∀ i, (ck r).getD i 0 < 115792089237316195423570985008687907853269984665640564039457584007913129639936) := hck
  have HHB : Hid (hb = true ↔ ∀ r, r < P → ∀ v, v ∈ ck r → v = 0) := hhb
  have HTB : Hid (Tab w (.slice om n cm) n F L X ∧ Tab w (.slice on n cn) n F2 L2 Y ∧ (∀ i, i < n → L i = P) ∧ (∀ i, i < n → L2 i = P)) := ⟨h1, h2, hL, hL2⟩
  have HZS : Hid (SlT 32 w T C zs ∧ ∀ j, j < C → Es w (zs j) P (zv j)) := ⟨hS, hz⟩
  obtain ⟨i0, hi, hz0, hz1, hz2⟩ := elemInfo
  have HI := (show Hid _ from hi); have HZ := (show Hid _ from And.intro hz0 (And.intro hz1 hz2)); clear hi hz0 hz1 hz2
  obtain ⟨i1, hi, hz0, hz1, hz2⟩ := chunkInfo
  have HIC := (show Hid _ from hi); have HZC := (show Hid _ from And.intro hz0 (And.intro hz1 hz2)); clear hi hz0 hz1 hz2
  clear hg hP8 eP e1 hL hL2 hpts hplc hchk hck hhb h1 h2 hS hz hq hn hC
  go_enter Tryd.func17, Tryd.ntmps17
  go_wp2_with fail
  have hs1 : (w.alloc (.cells #[.int .u64 ((limb 0 (be) : Nat) : Int), .int .u64 ((limb 1 (be) : Nat) : Int), .int .u64 ((limb 2 (be) : Nat) : Int), .int .u64 ((limb 3 (be) : Nat) : Int)] 24)).heap.size = w.heap.size + 1 := Array.size_push ..
  obtain ⟨N12, e0⟩ : ∃ z, z = w.heap.size := ⟨_, rfl⟩
  obtain ⟨N13, e1⟩ : ∃ z, z = N12 + 1 := ⟨_, rfl⟩
  obtain ⟨w1, hw1⟩ : ∃ z : World, z = (w.alloc (.cells #[.int .u64 ((limb 0 (be) : Nat) : Int), .int .u64 ((limb 1 (be) : Nat) : Int), .int .u64 ((limb 2 (be) : Nat) : Int), .int .u64 ((limb 3 (be) : Nat) : Int)] 24)).alloc (.cells #[.int .u64 ((limb 0 (ga) : Nat) : Int), .int .u64 ((limb 1 (ga) : Nat) : Int), .int .u64 ((limb 2 (ga) : Nat) : Int), .int .u64 ((limb 3 (ga) : Nat) : Int)] 24) := ⟨_, rfl⟩
  have b12 : Blk w1 24 N12 (fun i => limb i be) := by rw [hw1]; exact (Blk.newAt _ _ _ (fun i => limb i be) e0).alloc _
  have b13 : Blk w1 24 N13 (fun i => limb i ga) := by rw [hw1]; exact Blk.newAt _ _ _ (fun i => limb i ga) (by rw [e1, e0, hs1])
  have hb1 : Below w.heap.size w w1 := by rw [hw1]; exact bAlloc (bAlloc (Below.refl _ _) _) _
  rw [← hw1]
  try rw [← e0]
  try rw [← e1]
  have l12 : w.heap.size ≤ N12 := by omega
  have l13 : w.heap.size ≤ N13 := by omega
  have n12_13 : N12 ≠ N13 := by omega
  clear hw1 e0 e1 hs1
  have HG1 : Hid (GlobD w1) := HG.out.below hb1
  refine (HPT.out w1 HG1.out).mono ?_
  rintro e w2 ⟨⟨pg, rfl, lpg, bpg⟩, hbP⟩
  have hb2 := bStep hb1 hbP
  have c12 := b12.belowAll hbP
  have c13 := b13.belowAll hbP
  clear b12 b13 hb1 hbP lpg HPT
  go_upto_region 4 with fail
  obtain ⟨wL, hwL⟩ : ∃ z : World, z = w2.alloc (.cells #[.int .u64 0, .int .u64 0, .int .u64 0, .int .u64 0] 24) := ⟨_, rfl⟩
  obtain ⟨N18, e18⟩ : ∃ z, z = w2.heap.size := ⟨_, rfl⟩
  have b18 : Blk wL 24 N18 (fun _ => 0) := by rw [hwL]; exact Blk.newAt _ _ _ (fun _ => 0) e18
  have hbn : Below w2.heap.size w2 wL := by rw [hwL]; exact bAlloc (Below.refl _ _) _
  have HBL : Hid (Blk wL 24 N12 (fun i => limb i be) ∧ Blk wL 24 N13 (fun i => limb i ga) ∧ BlkE wL pg P pt ∧ Blk wL 24 N18 (fun _ => 0) ∧ Below w.heap.size w wL) := ⟨c12.belowAll hbn, c13.belowAll hbn, bpg.belowAll hbn, b18, bStep hb2 hbn⟩
  have HGL : Hid (GlobD wL) := HG.out.below HBL.out.2.2.2.2
  rw [← hwL]
  try rw [← e18]
  clear hwL e18 hbn c12 c13 bpg b18 hb2
  go_wp2
  go_loopw [19] (fun rv wr => ∃ r : Nat, rv = .int .i64 (r : Int) ∧ r ≤ P ∧ Below wL.heap.size wL wr ∧ Hid (∀ i, i < r → ∀ v, v ∈ ck i → v = 0)) (fun rv _ => P - (intOf rv).toNat)
  case atStart => exact ⟨0, rfl, Nat.zero_le _, Below.refl _ _, fun i hi => absurd hi (by omega)⟩
  case round =>
    obtain ⟨r, rfl, hr, hbr, HZR⟩ := hrel
    obtain ⟨wq, rfl⟩ : ∃ z, z = wr := ⟨_, rfl⟩
    have hP32 : P ≤ 32 := HPB.out.2.1
    have HBQ : Hid (Below w.heap.size w wq) := bStep HBL.out.2.2.2.2 hbr
    by_cases hlt : r < P
    · have hri : (r : Int) < (P : Int) := by omega
      have hr0 : (0 : Int) ≤ (r : Int) := by omega
      have HPR : Hid (∀ w, GlobD w → _) := HPL.out r hlt
      have HCR : Hid (∀ v1 v2 v3 w, GlobD w → _) := HCK.out r hlt
      obtain ⟨sp, eSP⟩ : ∃ z : Array Value, z = #[.int .u64 ((limb 0 (y0 r) : Nat) : Int), .int .u64 ((limb 1 (y0 r) : Nat) : Int), .int .u64 ((limb 2 (y0 r) : Nat) : Int), .int .u64 ((limb 3 (y0 r) : Nat) : Int), .int .u64 ((limb 0 (y1 r) : Nat) : Int), .int .u64 ((limb 1 (y1 r) : Nat) : Int), .int .u64 ((limb 2 (y1 r) : Nat) : Int), .int .u64 ((limb 3 (y1 r) : Nat) : Int), .int .u64 ((limb 0 (y2 r) : Nat) : Int), .int .u64 ((limb 1 (y2 r) : Nat) : Int), .int .u64 ((limb 2 (y2 r) : Nat) : Int), .int .u64 ((limb 3 (y2 r) : Nat) : Int), .int .u64 ((limb 0 (y3 r) : Nat) : Int), .int .u64 ((limb 1 (y3 r) : Nat) : Int), .int .u64 ((limb 2 (y3 r) : Nat) : Int), .int .u64 ((limb 3 (y3 r) : Nat) : Int)] := ⟨_, rfl⟩
      have HSP : Hid (sp = #[.int .u64 ((limb 0 (y0 r) : Nat) : Int), .int .u64 ((limb 1 (y0 r) : Nat) : Int), .int .u64 ((limb 2 (y0 r) : Nat) : Int), .int .u64 ((limb 3 (y0 r) : Nat) : Int), .int .u64 ((limb 0 (y1 r) : Nat) : Int), .int .u64 ((limb 1 (y1 r) : Nat) : Int), .int .u64 ((limb 2 (y1 r) : Nat) : Int), .int .u64 ((limb 3 (y1 r) : Nat) : Int), .int .u64 ((limb 0 (y2 r) : Nat) : Int), .int .u64 ((limb 1 (y2 r) : Nat) : Int), .int .u64 ((limb 2 (y2 r) : Nat) : Int), .int .u64 ((limb 3 (y2 r) : Nat) : Int), .int .u64 ((limb 0 (y3 r) : Nat) : Int), .int .u64 ((limb 1 (y3 r) : Nat) : Int), .int .u64 ((limb 2 (y3 r) : Nat) : Int), .int .u64 ((limb 3 (y3 r) : Nat) : Int)]) := eSP
      have HPI : Hid ((Tryd.prog.info? 27).map (·.size) = some sp.size) := by
        show _ = _
        rw [eSP]
        exact (by kernel_rfl : (Tryd.prog.info? 27).map (·.size) = some 16)
      rw [← eSP] at HCR
      have hcp := (HBL.out.2.2.1.belowAll hbr).cell r hlt
      obtain ⟨x, ex⟩ : ∃ x, x = pt r := ⟨_, rfl⟩
      rw [← ex] at HPR
      have p0 := hcp 0 (by decide); have p1 := hcp 1 (by decide); have p2 := hcp 2 (by decide); have p3 := hcp 3 (by decide)
      rw [← ex] at p0 p1 p2 p3
      rw [Nat.add_zero] at p0
      clear hcp ex eSP
      go_wp2_with fail
      refine (HPR.out wq (HGL.out.below hbr)).mono ?_
      rintro e wa ⟨rfl, hba⟩
      have hb3 := bStep hbr hba
      clear p0 p1 p2 p3 hbr hba HPR
      go_upto_region 10 with fail
      obtain ⟨wb, hwb⟩ : ∃ z : World, z = wa.alloc (.cells #[.int .u64 ((limb 0 (y0 r) : Nat) : Int), .int .u64 ((limb 1 (y0 r) : Nat) : Int), .int .u64 ((limb 2 (y0 r) : Nat) : Int), .int .u64 ((limb 3 (y0 r) : Nat) : Int), .int .u64 ((limb 0 (y1 r) : Nat) : Int), .int .u64 ((limb 1 (y1 r) : Nat) : Int), .int .u64 ((limb 2 (y1 r) : Nat) : Int), .int .u64 ((limb 3 (y1 r) : Nat) : Int), .int .u64 ((limb 0 (y2 r) : Nat) : Int), .int .u64 ((limb 1 (y2 r) : Nat) : Int), .int .u64 ((limb 2 (y2 r) : Nat) : Int), .int .u64 ((limb 3 (y2 r) : Nat) : Int), .int .u64 ((limb 0 (y3 r) : Nat) : Int), .int .u64 ((limb 1 (y3 r) : Nat) : Int), .int .u64 ((limb 2 (y3 r) : Nat) : Int), .int .u64 ((limb 3 (y3 r) : Nat) : Int)] 27) := ⟨_, rfl⟩
      obtain ⟨N20, e20⟩ : ∃ z, z = wa.heap.size := ⟨_, rfl⟩
      have b20 : Lay wb 27 N20 sp := by rw [hwb, HSP.out]; exact Lay.newAt _ _ _ e20
      have HB4 : Hid (Below wL.heap.size wL wb) := by show Below _ _ _; rw [hwb]; exact bAlloc hb3 _
      have HB20 : Hid (Lay wb 27 N20 sp) := b20
      rw [← hwb]
      try rw [← e20]
      clear hwb e20 hb3 b20
      go_upto_region 12 with fail
      obtain ⟨N22, e22⟩ : ∃ z, z = wb.heap.size := ⟨_, rfl⟩
      obtain ⟨N23, e23⟩ : ∃ z, z = N22 + 1 := ⟨_, rfl⟩
      have hs1 : (wb.alloc (.cells #[] 24)).heap.size = wb.heap.size + 1 := Array.size_push ..
      obtain ⟨wd, hwd⟩ : ∃ z : World, z = (wb.alloc (.cells #[] 24)).alloc (.cells #[] 24) := ⟨_, rfl⟩
      have hbd : Below wb.heap.size wb wd := by rw [hwd]; exact bAlloc (bAlloc (Below.refl _ _) _) _
      have ov : OwnL wd wb.heap.size (.slice (some ⟨N22, 0, none⟩) 0 0) [] := by rw [hwd]; exact (ownL_nil wb _ N22 e22 (Nat.le_refl _)).below (bAlloc (Below.refl _ _) _)
      have og : OwnL wd wb.heap.size (.slice (some ⟨N23, 0, none⟩) 0 0) [] := by rw [hwd]; exact ownL_nil _ _ N23 (by rw [hs1, e23, e22]) (by omega)
      have n23 : N22 ≠ N23 := by omega
      rw [← hwd, ← e22, ← e23]
      clear hwd e22 e23 hs1
      have HAP0 : Hid (∃ a b, (Value.slice (some ⟨N22, 0, none⟩) 0 0).ownBlock = some a ∧ (Value.slice (some ⟨N23, 0, none⟩) 0 0).ownBlock = some b ∧ a ≠ b) := ⟨N22, N23, rfl, rfl, n23⟩
      have hn8 : n ≤ 8 := HPB.out.2.2.2.1
      clear n23
      go_wp2
      go_loopw [22, 23, 24] (fun v g iv wr => ∃ i : Nat, iv = .int .i64 (i : Int) ∧ i ≤ n ∧ OwnL wr wb.heap.size v ((List.range i).map fun j => X j r) ∧ OwnL wr wb.heap.size g ((List.range i).map fun j => Y j r) ∧ Hid (∃ a b, v.ownBlock = some a ∧ g.ownBlock = some b ∧ a ≠ b) ∧ Below wb.heap.size wb wr) (fun _ _ iv _ => n - (intOf iv).toNat)
      case atStart => exact ⟨0, rfl, Nat.zero_le _, ov, og, HAP0, hbd⟩
      case round =>
        obtain ⟨i, rfl, hi, ov1, og1, HAP, hbw⟩ := hrel
        clear ov og hbd HAP0
        by_cases hli : i < n
        · have hii : (i : Int) < (n : Int) := by omega
          have hi0 : (0 : Int) ≤ (i : Int) := by omega
          have HBW : Hid (Below w.heap.size w wr) := bStep HBL.out.2.2.2.2 (bStep HB4.out hbw)
          obtain ⟨ab, ao, bi, o2, ci, rfl, l1, l2, a0, hcc⟩ := (HTB.out.1.below HBW.out).elem hli (HTB.out.2.2.1 i hli) hlt
          obtain ⟨xx, exx⟩ : ∃ z, z = X i r := ⟨_, rfl⟩
          rw [← exx] at hcc
          have a1 := hcc 0 (by decide); have a2 := hcc 1 (by decide); have a3 := hcc 2 (by decide); have a4 := hcc 3 (by decide)
          rw [Nat.add_zero] at a1
          have HEX : Hid ((List.range (i + 1)).map (fun j => X j r) = (List.range i).map (fun j => X j r) ++ [xx]) := by rw [exx]; exact map_succ _ _
          obtain ⟨lv, elv⟩ : ∃ l, l = (List.range i).map fun j => X j r := ⟨_, rfl⟩
          rw [← elv] at ov1 HEX
          have hl8 : lv.length ≤ 8 := by rw [elv]; simp; omega
          have hwb : wb.heap.size ≤ wr.heap.size := hbw.size
          clear hcc exx elv l1 l2
          go_upto_region 16 with (first
            | (at_builtin; refine wpList_append_keep2 _ rfl _ _ 32 rfl wb.heap.size 24 i0 (.agg #[.int .u64 0, .int .u64 0, .int .u64 0, .int .u64 0]) 4 32 Tryd.underlying32 HI.out HZ.out.1 HZ.out.2.1 HZ.out.2.2 rfl (by decide) _ _ _ rfl (ov1.below (bAlloc (Below.refl _ _) _)) ⟨wr.heap.size, 0, none⟩ 1 1 [.int .u64 ((limb 0 xx : Nat) : Int), .int .u64 ((limb 1 xx : Nat) : Int), .int .u64 ((limb 2 xx : Nat) : Int), .int .u64 ((limb 3 xx : Nat) : Int)] rfl rfl ?c1 ?c2 ?c3 ?c4 ?c5 ?_)
            | go_in)
          case c1 =>
            intro j u hj
            match j, hj with
            | 0, hj => simp at hj; subst hj; simp [Addr.add]
            | 1, hj => simp at hj; subst hj; simp [Addr.add]
            | 2, hj => simp at hj; subst hj; simp [Addr.add]
            | 3, hj => simp at hj; subst hj; simp [Addr.add]
            | j + 4, hj => simp at hj
          case c2 => first | exact ⟨rfl, rfl, rfl, rfl⟩ | (intro u hu; simp at hu; rcases hu with rfl | rfl | rfl | rfl <;> rfl)
          case c3 => unfold maxLen; omega
          case c4 => omega
          case c5 => first | omega | (simp; omega)
          intro v' w6 own6' hgr6 hkp6
          have own6 := OwnL.push own6'
          rw [← HEX.out] at own6
          obtain ⟨va, vb2, hva, hvb, hab⟩ := HAP.out
          have hog := (og1.below (bAlloc (Below.refl _ _) (.cells #[.int .u64 ((limb 0 xx : Nat) : Int), .int .u64 ((limb 1 xx : Nat) : Int), .int .u64 ((limb 2 xx : Nat) : Int), .int .u64 ((limb 3 xx : Nat) : Int)] 24))).beside (v' := v') hgr6 (fun k hk => by rw [hvb]; intro hh; rw [hva] at hk; cases hk; cases hh; exact hab rfl)
          have hsz : (wr.alloc (.cells #[.int .u64 ((limb 0 xx : Nat) : Int), .int .u64 ((limb 1 xx : Nat) : Int), .int .u64 ((limb 2 xx : Nat) : Int), .int .u64 ((limb 3 xx : Nat) : Int)] 24)).heap.size = wr.heap.size + 1 := Array.size_push ..
          have hap := hog.2 (fun b hb k hk => by rw [hsz]; exact (hkp6 b hb).2 k hk) ⟨va, hva⟩
          have og6 := hog.1
          have hbg6 : Below wb.heap.size wr w6 := ((Below.refl _ wr).alloc hwb _).grown hgr6 (by simp; omega) (fun j hj => own_block_geE ov1 hj)
          have hb6 : Below wb.heap.size wb w6 := hbw.trans hbg6
          have HVB : Hid (_ = some vb2) := hvb
          clear own6' hgr6 hkp6 hog hva hvb hab HAP a0 a1 a2 a3 a4 ov1 og1 hbg6 hbw HBW HEX hl8 lv hwb hsz
          have HBW6 : Hid (Below w.heap.size w w6) := bStep HBL.out.2.2.2.2 (bStep HB4.out hb6)
          obtain ⟨bb, bo, di, d2, dc, rfl, l1, l2, a0, hcc⟩ := (HTB.out.2.1.below HBW6.out).elem hli (HTB.out.2.2.2 i hli) hlt
          obtain ⟨yy, eyy⟩ : ∃ z, z = Y i r := ⟨_, rfl⟩
          rw [← eyy] at hcc
          have a1 := hcc 0 (by decide); have a2 := hcc 1 (by decide); have a3 := hcc 2 (by decide); have a4 := hcc 3 (by decide)
          rw [Nat.add_zero] at a1
          have HEY : Hid ((List.range (i + 1)).map (fun j => Y j r) = (List.range i).map (fun j => Y j r) ++ [yy]) := by rw [eyy]; exact map_succ _ _
          obtain ⟨lg, elg⟩ : ∃ l, l = (List.range i).map fun j => Y j r := ⟨_, rfl⟩
          rw [← elg] at og6 HEY
          have hl8 : lg.length ≤ 8 := by rw [elg]; simp; omega
          have hwb6 : wb.heap.size ≤ w6.heap.size := hb6.size
          clear hcc eyy elg l1 l2
          go_upto_region 14 with (first
            | (at_builtin; refine wpList_append_keep2 _ rfl _ _ 32 rfl wb.heap.size 24 i0 (.agg #[.int .u64 0, .int .u64 0, .int .u64 0, .int .u64 0]) 4 32 Tryd.underlying32 HI.out HZ.out.1 HZ.out.2.1 HZ.out.2.2 rfl (by decide) _ _ _ rfl (og6.below (bAlloc (Below.refl _ _) _)) ⟨w6.heap.size, 0, none⟩ 1 1 [.int .u64 ((limb 0 yy : Nat) : Int), .int .u64 ((limb 1 yy : Nat) : Int), .int .u64 ((limb 2 yy : Nat) : Int), .int .u64 ((limb 3 yy : Nat) : Int)] rfl rfl ?c1 ?c2 ?c3 ?c4 ?c5 ?_)
            | go_in)
          case c1 =>
            intro j u hj
            match j, hj with
            | 0, hj => simp at hj; subst hj; simp [Addr.add]
            | 1, hj => simp at hj; subst hj; simp [Addr.add]
            | 2, hj => simp at hj; subst hj; simp [Addr.add]
            | 3, hj => simp at hj; subst hj; simp [Addr.add]
            | j + 4, hj => simp at hj
          case c2 => first | exact ⟨rfl, rfl, rfl, rfl⟩ | (intro u hu; simp at hu; rcases hu with rfl | rfl | rfl | rfl <;> rfl)
          case c3 => unfold maxLen; omega
          case c4 => omega
          case c5 => first | omega | (simp; omega)
          intro v2 w7 own7' hgr7 hkp7
          have own7 := OwnL.push own7'
          rw [← HEY.out] at own7
          have hov := (own6.below (bAlloc (Below.refl _ _) (.cells #[.int .u64 ((limb 0 yy : Nat) : Int), .int .u64 ((limb 1 yy : Nat) : Int), .int .u64 ((limb 2 yy : Nat) : Int), .int .u64 ((limb 3 yy : Nat) : Int)] 24))).beside (v' := v2) hgr7 (fun k hk hh => hap k hh hk)
          have hsz : (w6.alloc (.cells #[.int .u64 ((limb 0 yy : Nat) : Int), .int .u64 ((limb 1 yy : Nat) : Int), .int .u64 ((limb 2 yy : Nat) : Int), .int .u64 ((limb 3 yy : Nat) : Int)] 24)).heap.size = w6.heap.size + 1 := Array.size_push ..
          have hap7 := hov.2 (fun b hb k hk => by rw [hsz]; exact (hkp7 b hb).2 k hk) ⟨vb2, HVB.out⟩
          have ov7 := hov.1
          have hbg7 : Below wb.heap.size w6 w7 := ((Below.refl _ w6).alloc hwb6 _).grown hgr7 (by simp; omega) (fun j hj => own_block_geE og6 hj)
          have hb7 : Below wb.heap.size wb w7 := hb6.trans hbg7
          obtain ⟨ka, hka⟩ := ov7.has (by simp)
          obtain ⟨kb, hkb⟩ := own7.has (by simp)
          have HAP7 : Hid (∃ a b, v'.ownBlock = some a ∧ v2.ownBlock = some b ∧ a ≠ b) := ⟨ka, kb, hka, hkb, fun e => hap7 kb hkb (e ▸ hka)⟩
          clear own7' hgr7 hkp7 hov HVB hap hap7 hka hkb a0 a1 a2 a3 a4 own6 og6 hbg7 hb6 HBW6 HEY hl8 lg hwb6 hsz
          go_wp2
          go_roundw
          case measure => simp [intOf]; omega
          case rel => exact ⟨i + 1, by go_num, by omega, ov7, own7, HAP7, hb7⟩
        · have hii : ¬ (i : Int) < (n : Int) := by omega
          have hin : i = n := by omega
          obtain ⟨wv, rfl⟩ : ∃ z, z = wr := ⟨_, rfl⟩
          obtain ⟨v, rfl⟩ : ∃ z, z = u22 := ⟨_, rfl⟩
          obtain ⟨g, rfl⟩ : ∃ z, z = u23 := ⟨_, rfl⟩
          have HV : Hid (Es wv v n (fun t => X t r)) := (OwnL.es ov1).congH (by simp; omega) (fun t ht => mapR_at _ _ _ (by simp at ht; omega))
          have HGG : Hid (Es wv g n (fun t => Y t r)) := (OwnL.es og1).congH (by simp; omega) (fun t ht => mapR_at _ _ _ (by simp at ht; omega))
          have HBW : Hid (Below wL.heap.size wL wv) := bStep HB4.out hbw
          have HL20 : Hid (Lay wv 27 N20 sp) := HB20.out.belowAll hbw
          obtain ⟨At, eAt⟩ : ∃ f : Nat → Nat, f = fun t => zv t r := ⟨_, rfl⟩
          obtain ⟨Nx, eNx⟩ : ∃ f : Nat → Nat, f = fun t => zv t ((r + 1) % P) := ⟨_, rfl⟩
          obtain ⟨La, eLa⟩ : ∃ f : Nat → Nat, f = fun t => zv t ((r + P - 4) % P) := ⟨_, rfl⟩
          have HCQ : Hid (∀ v1 v2 v3 w, GlobD w → _) := HCR.out
          rw [← eAt, ← eNx, ← eLa] at HCQ
          have hP8 := HPB.out
          obtain ⟨nx, enx⟩ : ∃ z, z = (r + 1) % P := ⟨_, rfl⟩
          obtain ⟨la, ela⟩ : ∃ z, z = (r + P - 4) % P := ⟨_, rfl⟩
          rw [← enx] at eNx
          rw [← ela] at eLa
          obtain ⟨t1, et1⟩ : ∃ t, t = r + 1 := ⟨_, rfl⟩
          obtain ⟨t2, et2⟩ : ∃ t, t = r + P := ⟨_, rfl⟩
          obtain ⟨t3, et3⟩ : ∃ t, t = r + P - 4 := ⟨_, rfl⟩
          have HWR : Hid (IntKind.i64.wrap ((r : Int) + 1) = (t1 : Int) ∧ Int.tmod (t1 : Int) (P : Int) = (nx : Int) ∧ IntKind.i64.wrap ((r : Int) + (P : Int)) = (t2 : Int) ∧ IntKind.i64.wrap ((t2 : Int) - 4) = (t3 : Int) ∧ Int.tmod (t3 : Int) (P : Int) = (la : Int) ∧ ¬ P = 0) := by
            refine ⟨?_, ?_, ?_, ?_, ?_, by omega⟩
            · rw [show (r : Int) + 1 = (t1 : Int) by omega]; exact wrap_i64_nat t1 (by omega)
            · rw [enx, ← et1, Int.tmod_eq_emod_of_nonneg (by omega)]; simp
            · rw [show (r : Int) + (P : Int) = (t2 : Int) by omega]; exact wrap_i64_nat t2 (by omega)
            · rw [show (t2 : Int) - 4 = (t3 : Int) by omega]; exact wrap_i64_nat t3 (by omega)
            · rw [ela, ← et3, Int.tmod_eq_emod_of_nonneg (by omega)]; simp
          have hnxP : nx < P := by rw [enx]; exact Nat.mod_lt _ (by omega)
          have hlaP : la < P := by rw [ela]; exact Nat.mod_lt _ (by omega)
          have HNX : Hid (nx < P ∧ (nx : Int) < (P : Int) ∧ (0 : Int) ≤ (nx : Int) ∧ la < P ∧ (la : Int) < (P : Int) ∧ (0 : Int) ≤ (la : Int)) := ⟨hnxP, by omega, by omega, hlaP, by omega, by omega⟩
          have HTZ : Hid (At = (fun t => zv t r) ∧ Nx = (fun t => zv t nx) ∧ La = (fun t => zv t la)) := ⟨eAt, eNx, eLa⟩
          clear ov1 og1 HAP hbw hin HCR HB4 HB20 eAt eNx eLa enx ela et1 et2 et3 hnxP hlaP hP8
          go_upto_region 18 with fail
          obtain ⟨NC, eNC⟩ : ∃ z, z = wv.heap.size := ⟨_, rfl⟩
          obtain ⟨wc, hwc⟩ : ∃ z : World, z = wv.alloc (.cells #[] 62) := ⟨_, rfl⟩
          have hbc : Below wv.heap.size wv wc := by rw [hwc]; exact bAlloc (Below.refl _ _) _
          have oc0 : wc.ownsRow wv.heap.size 62 12 (.slice (some ⟨NC, 0, none⟩) 0 0) 0 (chk12 At Nx La 0) := by rw [hwc, eNC]; exact ⟨rfl, Or.inr ⟨_, 0, #[], rfl, Nat.le_refl _, new_blockE _ _, Nat.le_refl _, by decide, rfl, rfl⟩⟩
          rw [← hwc]
          try rw [← eNC]
          clear hwc eNC hii
          go_wp2
          go_loopw [25, 26] (fun cv jv wy => ∃ j : Nat, jv = .int .i64 (j : Int) ∧ j ≤ C ∧ wy.ownsRow wv.heap.size 62 12 cv j (chk12 At Nx La j) ∧ Below wv.heap.size wv wy) (fun _ jv _ => C - (intOf jv).toNat)
          case atStart => exact ⟨0, rfl, Nat.zero_le _, oc0, hbc⟩
          case round =>
            obtain ⟨j, rfl, hj, oc1, hby⟩ := hrel
            obtain ⟨wy, rfl⟩ : ∃ z, z = wr := ⟨_, rfl⟩
            obtain ⟨cv, rfl⟩ : ∃ z, z = u25 := ⟨_, rfl⟩
            clear oc0 hbc
            by_cases hlj : j < C
            · have hjj : (j : Int) < (C : Int) := by omega
              have hj0 : (0 : Int) ≤ (j : Int) := by omega
              have hC5 : C ≤ 500 := HPB.out.2.2.2.2.2
              have hbA : Below w.heap.size w wv := bStep HBL.out.2.2.2.2 HBW.out
              obtain ⟨zb, zo, cz, hzv, hz1, hz2, hzl, hzc⟩ : ∃ b o c, zs j = .slice (some ⟨b, o, none⟩) P c ∧ P ≤ c ∧ c ≤ maxLen ∧ b < wv.heap.size ∧ ∀ i, i < P → ∀ l, l < 4 → wv.cell? ⟨b, o + i * 4 + l, none⟩ = some (.int .u64 ((limb l (zv j i) : Nat) : Int)) := by
                rcases (HZS.out.2 j hlj).below hbA with ⟨_, h0⟩ | h
                · have := HPB.out.1; omega
                · exact h
              have HZT : Hid (∀ w', Below wv.heap.size wv w' → w'.cell? ⟨T, j, none⟩ = some (.slice (some ⟨zb, zo, none⟩) P cz)) := fun w' hb => by
                have h := ((HZS.out.1.belowAll hbA).belowAll hb).cell j hlj
                rw [hzv] at h
                exact h
              obtain ⟨a1, ea1⟩ : ∃ a, a = At j := ⟨_, rfl⟩
              obtain ⟨a2, ea2⟩ : ∃ a, a = Nx j := ⟨_, rfl⟩
              obtain ⟨a3, ea3⟩ : ∃ a, a = La j := ⟨_, rfl⟩
              have HZR : Hid (∀ w', Below wv.heap.size wv w' → (w'.cell? ⟨zb, zo + r * 4, none⟩ = some (.int .u64 ((limb 0 a1 : Nat) : Int)) ∧ w'.cell? ⟨zb, zo + r * 4 + 1, none⟩ = some (.int .u64 ((limb 1 a1 : Nat) : Int)) ∧ w'.cell? ⟨zb, zo + r * 4 + 2, none⟩ = some (.int .u64 ((limb 2 a1 : Nat) : Int)) ∧ w'.cell? ⟨zb, zo + r * 4 + 3, none⟩ = some (.int .u64 ((limb 3 a1 : Nat) : Int))) ∧ (w'.cell? ⟨zb, zo + nx * 4, none⟩ = some (.int .u64 ((limb 0 a2 : Nat) : Int)) ∧ w'.cell? ⟨zb, zo + nx * 4 + 1, none⟩ = some (.int .u64 ((limb 1 a2 : Nat) : Int)) ∧ w'.cell? ⟨zb, zo + nx * 4 + 2, none⟩ = some (.int .u64 ((limb 2 a2 : Nat) : Int)) ∧ w'.cell? ⟨zb, zo + nx * 4 + 3, none⟩ = some (.int .u64 ((limb 3 a2 : Nat) : Int))) ∧ (w'.cell? ⟨zb, zo + la * 4, none⟩ = some (.int .u64 ((limb 0 a3 : Nat) : Int)) ∧ w'.cell? ⟨zb, zo + la * 4 + 1, none⟩ = some (.int .u64 ((limb 1 a3 : Nat) : Int)) ∧ w'.cell? ⟨zb, zo + la * 4 + 2, none⟩ = some (.int .u64 ((limb 2 a3 : Nat) : Int)) ∧ w'.cell? ⟨zb, zo + la * 4 + 3, none⟩ = some (.int .u64 ((limb 3 a3 : Nat) : Int)))) := fun w' h => by
                have q1 := fun l hl => (h.cell (p := ⟨zb, zo + r * 4 + l, none⟩) hzl).trans (hzc r hlt l hl)
                have q2 := fun l hl => (h.cell (p := ⟨zb, zo + nx * 4 + l, none⟩) hzl).trans (hzc nx HNX.out.1 l hl)
                have q3 := fun l hl => (h.cell (p := ⟨zb, zo + la * 4 + l, none⟩) hzl).trans (hzc la HNX.out.2.2.2.1 l hl)
                rw [ea1, ea2, ea3, HTZ.out.1, HTZ.out.2.1, HTZ.out.2.2]
                exact ⟨⟨q1 0 (by decide), q1 1 (by decide), q1 2 (by decide), q1 3 (by decide)⟩, ⟨q2 0 (by decide), q2 1 (by decide), q2 2 (by decide), q2 3 (by decide)⟩, q3 0 (by decide), q3 1 (by decide), q3 2 (by decide), q3 3 (by decide)⟩
              have HEN : Hid (chk12 At Nx La (j + 1) = chk12 At Nx La j ++ [.int .u64 ((limb 0 a1 : Nat) : Int), .int .u64 ((limb 1 a1 : Nat) : Int), .int .u64 ((limb 2 a1 : Nat) : Int), .int .u64 ((limb 3 a1 : Nat) : Int), .int .u64 ((limb 0 a2 : Nat) : Int), .int .u64 ((limb 1 a2 : Nat) : Int), .int .u64 ((limb 2 a2 : Nat) : Int), .int .u64 ((limb 3 a2 : Nat) : Int), .int .u64 ((limb 0 a3 : Nat) : Int), .int .u64 ((limb 1 a3 : Nat) : Int), .int .u64 ((limb 2 a3 : Nat) : Int), .int .u64 ((limb 3 a3 : Nat) : Int)]) := by
                show _ = _
                rw [chk12_succ, ea1, ea2, ea3]
                rfl
              have HOW : Hid (wy.ownsRow wv.heap.size 62 12 cv j (chk12 At Nx La j)) := oc1
              have hwr : wv.heap.size ≤ wy.heap.size := hby.size
              clear hzv hz1 hz2 hzl hzc ea1 ea2 ea3 oc1 hbA
              go_upto_region 21 with fail
              refine wp_region_Z (fun w' => Below wv.heap.size wv w') 99 (by kernel_rfl) ?_
              obtain ⟨wD, hD⟩ : ∃ z : World, z = wy.drew := ⟨_, rfl⟩
              rw [← hD]
              have hq0 : Below wy.heap.size wy wD := by rw [hD]; exact (Below.refl _ _).drew
              have hp0 : Below wv.heap.size wv wD := bStep hby hq0
              clear hD
              refine zt 0 91 (cv) rfl rfl (fun w hSw => by go_simp) hp0 ?_
              simp only [Act.put, List.setIfInBounds_toArray]
              (try dsimp only [List.set_cons_zero, List.set_cons_succ])
              refine zt 1 92 (.slice (some ⟨T, 0, none⟩) C C) rfl rfl (fun w hSw => by go_simp) hp0 ?_
              simp only [Act.put, List.setIfInBounds_toArray]
              (try dsimp only [List.set_cons_zero, List.set_cons_succ])
              refine zt 2 93 (.int .i64 (j : Int)) rfl rfl (fun w hSw => by go_simp) hp0 ?_
              simp only [Act.put, List.setIfInBounds_toArray]
              (try dsimp only [List.set_cons_zero, List.set_cons_succ])
              refine zt 3 94 (.pointer (some ⟨T, j, none⟩)) rfl rfl (fun w hSw => by go_simp) hp0 ?_
              simp only [Act.put, List.setIfInBounds_toArray]
              (try dsimp only [List.set_cons_zero, List.set_cons_succ])
              refine zt 4 95 (.slice (some ⟨zb, zo, none⟩) P cz) rfl rfl (fun w hSw => by have qq := HZT.out w hSw; clear hSw; go_simp) hp0 ?_
              simp only [Act.put, List.setIfInBounds_toArray]
              (try dsimp only [List.set_cons_zero, List.set_cons_succ])
              refine zt 5 96 (.int .i64 (r : Int)) rfl rfl (fun w hSw => by go_simp) hp0 ?_
              simp only [Act.put, List.setIfInBounds_toArray]
              (try dsimp only [List.set_cons_zero, List.set_cons_succ])
              refine zt 6 97 (.pointer (some ⟨zb, zo + r * 4, none⟩)) rfl rfl (fun w hSw => by go_simp) hp0 ?_
              simp only [Act.put, List.setIfInBounds_toArray]
              (try dsimp only [List.set_cons_zero, List.set_cons_succ])
              refine zt 7 98 (.agg #[.int .u64 ((limb 0 (a1) : Nat) : Int), .int .u64 ((limb 1 (a1) : Nat) : Int), .int .u64 ((limb 2 (a1) : Nat) : Int), .int .u64 ((limb 3 (a1) : Nat) : Int)]) rfl rfl (fun w hSw => by obtain ⟨⟨q0, q1, q2, q3⟩, ⟨q4, q5, q6, q7⟩, ⟨q8, q9, q10, q11⟩⟩ := HZR.out w hSw; clear hSw; go_simp) hp0 ?_
              simp only [Act.put, List.setIfInBounds_toArray]
              (try dsimp only [List.set_cons_zero, List.set_cons_succ])
              refine zt 8 99 (.slice (some ⟨T, 0, none⟩) C C) rfl rfl (fun w hSw => by go_simp) hp0 ?_
              simp only [Act.put, List.setIfInBounds_toArray]
              (try dsimp only [List.set_cons_zero, List.set_cons_succ])
              refine zt 9 100 (.int .i64 (j : Int)) rfl rfl (fun w hSw => by go_simp) hp0 ?_
              simp only [Act.put, List.setIfInBounds_toArray]
              (try dsimp only [List.set_cons_zero, List.set_cons_succ])
              refine zt 10 101 (.pointer (some ⟨T, j, none⟩)) rfl rfl (fun w hSw => by go_simp) hp0 ?_
              simp only [Act.put, List.setIfInBounds_toArray]
              (try dsimp only [List.set_cons_zero, List.set_cons_succ])
              refine zt 11 102 (.slice (some ⟨zb, zo, none⟩) P cz) rfl rfl (fun w hSw => by have qq := HZT.out w hSw; clear hSw; go_simp) hp0 ?_
              simp only [Act.put, List.setIfInBounds_toArray]
              (try dsimp only [List.set_cons_zero, List.set_cons_succ])
              refine zt 12 103 (.int .i64 (r : Int)) rfl rfl (fun w hSw => by go_simp) hp0 ?_
              simp only [Act.put, List.setIfInBounds_toArray]
              (try dsimp only [List.set_cons_zero, List.set_cons_succ])
              refine zt 13 104 (.int .i64 (t1 : Int)) rfl rfl (fun w hSw => by have hh := HWR.out.1; clear hSw; go_simp) hp0 ?_
              simp only [Act.put, List.setIfInBounds_toArray]
              (try dsimp only [List.set_cons_zero, List.set_cons_succ])
              refine zt 14 105 (.int .i64 (P : Int)) rfl rfl (fun w hSw => by go_simp) hp0 ?_
              simp only [Act.put, List.setIfInBounds_toArray]
              (try dsimp only [List.set_cons_zero, List.set_cons_succ])
              refine zt 15 106 (.int .i64 (nx : Int)) rfl rfl (fun w hSw => by have hh := HWR.out.2.1; have hp := HWR.out.2.2.2.2.2; clear hSw; go_simp) hp0 ?_
              simp only [Act.put, List.setIfInBounds_toArray]
              (try dsimp only [List.set_cons_zero, List.set_cons_succ])
              refine zt 16 107 (.pointer (some ⟨zb, zo + nx * 4, none⟩)) rfl rfl (fun w hSw => by have hh := HNX.out.2.1; have hp := HNX.out.2.2.1; clear hSw; go_simp) hp0 ?_
              simp only [Act.put, List.setIfInBounds_toArray]
              (try dsimp only [List.set_cons_zero, List.set_cons_succ])
              refine zt 17 108 (.agg #[.int .u64 ((limb 0 (a2) : Nat) : Int), .int .u64 ((limb 1 (a2) : Nat) : Int), .int .u64 ((limb 2 (a2) : Nat) : Int), .int .u64 ((limb 3 (a2) : Nat) : Int)]) rfl rfl (fun w hSw => by obtain ⟨⟨q0, q1, q2, q3⟩, ⟨q4, q5, q6, q7⟩, ⟨q8, q9, q10, q11⟩⟩ := HZR.out w hSw; clear hSw; go_simp) hp0 ?_
              simp only [Act.put, List.setIfInBounds_toArray]
              (try dsimp only [List.set_cons_zero, List.set_cons_succ])
              refine zt 18 109 (.slice (some ⟨T, 0, none⟩) C C) rfl rfl (fun w hSw => by go_simp) hp0 ?_
              simp only [Act.put, List.setIfInBounds_toArray]
              (try dsimp only [List.set_cons_zero, List.set_cons_succ])
              refine zt 19 110 (.int .i64 (j : Int)) rfl rfl (fun w hSw => by go_simp) hp0 ?_
              simp only [Act.put, List.setIfInBounds_toArray]
              (try dsimp only [List.set_cons_zero, List.set_cons_succ])
              refine zt 20 111 (.pointer (some ⟨T, j, none⟩)) rfl rfl (fun w hSw => by go_simp) hp0 ?_
              simp only [Act.put, List.setIfInBounds_toArray]
              (try dsimp only [List.set_cons_zero, List.set_cons_succ])
              refine zt 21 112 (.slice (some ⟨zb, zo, none⟩) P cz) rfl rfl (fun w hSw => by have qq := HZT.out w hSw; clear hSw; go_simp) hp0 ?_
              simp only [Act.put, List.setIfInBounds_toArray]
              (try dsimp only [List.set_cons_zero, List.set_cons_succ])
              refine zt 22 113 (.int .i64 (r : Int)) rfl rfl (fun w hSw => by go_simp) hp0 ?_
              simp only [Act.put, List.setIfInBounds_toArray]
              (try dsimp only [List.set_cons_zero, List.set_cons_succ])
              refine zt 23 114 (.int .i64 (P : Int)) rfl rfl (fun w hSw => by go_simp) hp0 ?_
              simp only [Act.put, List.setIfInBounds_toArray]
              (try dsimp only [List.set_cons_zero, List.set_cons_succ])
              refine zt 24 115 (.int .i64 (t2 : Int)) rfl rfl (fun w hSw => by have hh := HWR.out.2.2.1; clear hSw; go_simp) hp0 ?_
              simp only [Act.put, List.setIfInBounds_toArray]
              (try dsimp only [List.set_cons_zero, List.set_cons_succ])
              refine zt 25 116 (.int .i64 (t3 : Int)) rfl rfl (fun w hSw => by have hh := HWR.out.2.2.2.1; clear hSw; go_simp) hp0 ?_
              simp only [Act.put, List.setIfInBounds_toArray]
              (try dsimp only [List.set_cons_zero, List.set_cons_succ])
              refine zt 26 117 (.int .i64 (P : Int)) rfl rfl (fun w hSw => by go_simp) hp0 ?_
              simp only [Act.put, List.setIfInBounds_toArray]
              (try dsimp only [List.set_cons_zero, List.set_cons_succ])
              refine zt 27 118 (.int .i64 (la : Int)) rfl rfl (fun w hSw => by have hh := HWR.out.2.2.2.2.1; have hp := HWR.out.2.2.2.2.2; clear hSw; go_simp) hp0 ?_
              simp only [Act.put, List.setIfInBounds_toArray]
              (try dsimp only [List.set_cons_zero, List.set_cons_succ])
              refine zt 28 119 (.pointer (some ⟨zb, zo + la * 4, none⟩)) rfl rfl (fun w hSw => by have hh := HNX.out.2.2.2.2.1; have hp := HNX.out.2.2.2.2.2; clear hSw; go_simp) hp0 ?_
              simp only [Act.put, List.setIfInBounds_toArray]
              (try dsimp only [List.set_cons_zero, List.set_cons_succ])
              refine zt 29 120 (.agg #[.int .u64 ((limb 0 (a3) : Nat) : Int), .int .u64 ((limb 1 (a3) : Nat) : Int), .int .u64 ((limb 2 (a3) : Nat) : Int), .int .u64 ((limb 3 (a3) : Nat) : Int)]) rfl rfl (fun w hSw => by obtain ⟨⟨q0, q1, q2, q3⟩, ⟨q4, q5, q6, q7⟩, ⟨q8, q9, q10, q11⟩⟩ := HZR.out w hSw; clear hSw; go_simp) hp0 ?_
              simp only [Act.put, List.setIfInBounds_toArray]
              (try dsimp only [List.set_cons_zero, List.set_cons_succ])
              refine zt 30 121 (.agg #[.int .u64 ((limb 0 a1 : Nat) : Int), .int .u64 ((limb 1 a1 : Nat) : Int), .int .u64 ((limb 2 a1 : Nat) : Int), .int .u64 ((limb 3 a1 : Nat) : Int), .int .u64 ((limb 0 a2 : Nat) : Int), .int .u64 ((limb 1 a2 : Nat) : Int), .int .u64 ((limb 2 a2 : Nat) : Int), .int .u64 ((limb 3 a2 : Nat) : Int), .int .u64 ((limb 0 a3 : Nat) : Int), .int .u64 ((limb 1 a3 : Nat) : Int), .int .u64 ((limb 2 a3 : Nat) : Int), .int .u64 ((limb 3 a3 : Nat) : Int)]) rfl rfl (fun w hSw => by go_simp) hp0 ?_
              simp only [Act.put, List.setIfInBounds_toArray]
              (try dsimp only [List.set_cons_zero, List.set_cons_succ])
              refine wpZ_one (i := 31) (by kernel_rfl) rfl (fun K hK => ?_)
              go_simp
              obtain ⟨wG, hwG⟩ : ∃ z : World, z = wD.alloc (.cells #[.int .u64 ((limb 0 a1 : Nat) : Int), .int .u64 ((limb 1 a1 : Nat) : Int), .int .u64 ((limb 2 a1 : Nat) : Int), .int .u64 ((limb 3 a1 : Nat) : Int), .int .u64 ((limb 0 a2 : Nat) : Int), .int .u64 ((limb 1 a2 : Nat) : Int), .int .u64 ((limb 2 a2 : Nat) : Int), .int .u64 ((limb 3 a2 : Nat) : Int), .int .u64 ((limb 0 a3 : Nat) : Int), .int .u64 ((limb 1 a3 : Nat) : Int), .int .u64 ((limb 2 a3 : Nat) : Int), .int .u64 ((limb 3 a3 : Nat) : Int)] 62) := ⟨_, rfl⟩
              obtain ⟨NF, eF⟩ : ∃ z, z = wD.heap.size := ⟨_, rfl⟩
              have bF : Lay wG 62 NF #[.int .u64 ((limb 0 a1 : Nat) : Int), .int .u64 ((limb 1 a1 : Nat) : Int), .int .u64 ((limb 2 a1 : Nat) : Int), .int .u64 ((limb 3 a1 : Nat) : Int), .int .u64 ((limb 0 a2 : Nat) : Int), .int .u64 ((limb 1 a2 : Nat) : Int), .int .u64 ((limb 2 a2 : Nat) : Int), .int .u64 ((limb 3 a2 : Nat) : Int), .int .u64 ((limb 0 a3 : Nat) : Int), .int .u64 ((limb 1 a3 : Nat) : Int), .int .u64 ((limb 2 a3 : Nat) : Int), .int .u64 ((limb 3 a3 : Nat) : Int)] := by rw [hwG]; exact Lay.newAt _ _ _ eF
              have hbG : Below wD.heap.size wD wG := by rw [hwG]; exact bAlloc (Below.refl _ _) _
              have lowG : Below wv.heap.size wv wG := bStep hp0 hbG
              have ownG := ownsRow_below HOW.out (bStep hq0 hbG)
              have lBG : wv.heap.size ≤ wG.heap.size := lowG.size
              rw [← hwG, ← eF]
              refine hK.out _ _ (fun _ => lowG) ?_
              clear hK K hwG eF hbG
              refine wpZ_one (i := 32) (by kernel_rfl) rfl (fun K hK => ?_)
              rw [if_pos (show Region.wanted _ _ = true from rfl)]
              refine wp_append_own wG _ _ 33 rfl wv.heap.size 62 i1 (.agg #[.int .u64 0, .int .u64 0, .int .u64 0, .int .u64 0, .int .u64 0, .int .u64 0, .int .u64 0, .int .u64 0, .int .u64 0, .int .u64 0, .int .u64 0, .int .u64 0]) 12 96 Tryd.underlying33 HIC.out HZC.out.1 HZC.out.2.1 HZC.out.2.2 rfl (by decide) cv j (chk12 At Nx La j) rfl ownG ⟨NF, 0, none⟩ 1 1 [.int .u64 ((limb 0 a1 : Nat) : Int), .int .u64 ((limb 1 a1 : Nat) : Int), .int .u64 ((limb 2 a1 : Nat) : Int), .int .u64 ((limb 3 a1 : Nat) : Int), .int .u64 ((limb 0 a2 : Nat) : Int), .int .u64 ((limb 1 a2 : Nat) : Int), .int .u64 ((limb 2 a2 : Nat) : Int), .int .u64 ((limb 3 a2 : Nat) : Int), .int .u64 ((limb 0 a3 : Nat) : Int), .int .u64 ((limb 1 a3 : Nat) : Int), .int .u64 ((limb 2 a3 : Nat) : Int), .int .u64 ((limb 3 a3 : Nat) : Int)] rfl rfl ?c1 ?c2 ?c3 ?c4 lBG ?_
              case c1 => exact fun q u hu => newsOf bF q u (by rw [← hu]; simp)
              case c2 => intro u hu; simp at hu; rcases hu with rfl | rfl | rfl | rfl | rfl | rfl | rfl | rfl | rfl | rfl | rfl | rfl <;> rfl
              case c3 => unfold maxLen; omega
              case c4 => omega
              intro cv2 wH own6 hgr6 _
              rw [← HEN.out] at own6
              have S6 : Below wv.heap.size wv wH := lowG.trans ((Below.refl wv.heap.size wG).grown hgr6 lBG (fun q hq => own_block_geE ownG hq))
              refine hK.out _ _ (fun _ => S6) ?_
              clear hK K ownG hgr6 bF
              refine zt 33 25 (cv2) rfl rfl (fun w hSw => by go_simp) S6 ?_
              simp only [Act.put, List.setIfInBounds_toArray]
              (try dsimp only [List.set_cons_zero, List.set_cons_succ])
              refine wpZ_done (by kernel_rfl) ?_ _
              go_wp2_with fail
              go_wp2
              go_roundw
              case measure => simp [intOf]; omega
              case rel => exact ⟨j + 1, by go_num, by omega, own6, S6⟩
            · have hjj : ¬ (j : Int) < (C : Int) := by omega
              have hjC : j = C := by omega
              rw [hjC] at oc1
              have hz3 : Zs wy cv C At Nx La := own_zs oc1
              have hbB : Below wL.heap.size wL wy := bStep HBW.out hby
              have hcal := HCQ.out v g cv wy (HGL.out.below hbB) (HV.out.below hby) (HGG.out.below hby) hz3
              have HCA : Hid (Calls _ _ _ wy _) := hcal
              have HC20 : Hid (Lay wy 27 N20 sp) := HL20.out.belowAll hby
              have HBY : Hid (Below wL.heap.size wL wy) := hbB
              have q12 := (HBL.out.1.belowAll hbB).cell
              have q13 := (HBL.out.2.1.belowAll hbB).cell
              clear oc1 hz3 hcal hby hbB hjC HCQ HTZ HWR HNX HV HGG HL20
              go_wp2_with (first
                | (refine wpList_load_row rfl 27 _ rfl N20 rfl 27 sp (0, 0) _ HC20.out undSp rfl HPI.out ?_; simp only [Act.put]))
              refine HCA.out.mono ?_
              rintro e wz ⟨⟨va, rfl, ea⟩, hbz⟩
              have HBZ : Hid (Below wL.heap.size wL wz) := bStep HBY.out hbz
              have hcl := HCL.out r
              obtain ⟨K, eK⟩ : ∃ z, z = (ck r).length := ⟨_, rfl⟩
              obtain ⟨F, eF⟩ : ∃ f : Nat → Nat, f = fun i => (ck r).getD i 0 := ⟨_, rfl⟩
              rw [← eK] at ea hcl
              rw [← eF] at ea
              have HCK2 : Hid (0 < K ∧ K ≤ 2001 ∧ (∀ i, F i < 115792089237316195423570985008687907853269984665640564039457584007913129639936) ∧ K = (ck r).length ∧ F = fun i => (ck r).getD i 0) := ⟨hcl.1, hcl.2.1, fun i => by rw [eF]; exact hcl.2.2 i, eK, eF⟩
              obtain ⟨ab, ao, ac, rfl, ha1, ha2, hal, hac⟩ : ∃ b o c, va = .slice (some ⟨b, o, none⟩) K c ∧ K ≤ c ∧ c ≤ maxLen ∧ b < wz.heap.size ∧ ∀ i, i < K → ∀ l, l < 4 → wz.cell? ⟨b, o + i * 4 + l, none⟩ = some (.int .u64 ((limb l (F i) : Nat) : Int)) := by
                rcases ea with ⟨_, h0⟩ | h
                · have := HCK2.out.1; omega
                · exact h
              have hK0 : ¬ (K : Int) = 0 := by have := HCK2.out.1; omega
              have HAC : Hid (∀ i, i < K → ∀ l, l < 4 → wz.cell? ⟨ab, ao + i * 4 + l, none⟩ = some (.int .u64 ((limb l (F i) : Nat) : Int))) := hac
              clear ea hbz q12 q13 HC20 HCA hcl eK eF ha1 ha2 hac hjj
              go_wp2
              go_loopw [28] (fun iv wx => ∃ i : Nat, iv = .int .i64 (i : Int) ∧ i ≤ K ∧ Below wz.heap.size wz wx ∧ Hid (∀ t, t < i → F t = 0)) (fun iv _ => K - (intOf iv).toNat)
              case atStart => exact ⟨0, rfl, Nat.zero_le _, Below.refl _ _, fun t ht => absurd ht (by omega)⟩
              case round =>
                obtain ⟨i, rfl, hi, hbi, HFZ⟩ := hrel
                obtain ⟨wx, rfl⟩ : ∃ z, z = wr := ⟨_, rfl⟩
                by_cases hlk : i < K
                · have hii : (i : Int) < (K : Int) := by omega
                  have hi0 : (0 : Int) ≤ (i : Int) := by omega
                  obtain ⟨x, ex⟩ : ∃ z, z = F i := ⟨_, rfl⟩
                  have HC0 : Hid (∀ w', Below wx.heap.size wx w' → w'.cell? ⟨ab, ao + i * 4, none⟩ = some (.int .u64 ((limb 0 x : Nat) : Int)) ∧ w'.cell? ⟨ab, ao + i * 4 + 1, none⟩ = some (.int .u64 ((limb 1 x : Nat) : Int)) ∧ w'.cell? ⟨ab, ao + i * 4 + 2, none⟩ = some (.int .u64 ((limb 2 x : Nat) : Int)) ∧ w'.cell? ⟨ab, ao + i * 4 + 3, none⟩ = some (.int .u64 ((limb 3 x : Nat) : Int))) := fun w' h => by
                    have q := fun l hl => (((hbi.trans (h.mono hbi.size)).cell (p := ⟨ab, ao + i * 4 + l, none⟩) hal).trans (HAC.out i hlk l hl))
                    rw [ex]
                    exact ⟨q 0 (by decide), q 1 (by decide), q 2 (by decide), q 3 (by decide)⟩
                  have HC2 : Hid (Blk wx 24 N18 (fun _ => 0)) := HBL.out.2.2.2.1.belowAll (bStep HBZ.out hbi)
                  have HBF : Hid (Below wL.heap.size wL wx) := bStep HBZ.out hbi
                  by_cases hx0 : x = 0
                  · have HNE : Hid (∀ w, (Op.equalIn 10000 24 (.agg #[.int .u64 ((limb 0 (x) : Nat) : Int), .int .u64 ((limb 1 (x) : Nat) : Int), .int .u64 ((limb 2 (x) : Nat) : Int), .int .u64 ((limb 3 (x) : Nat) : Int)]) (.agg #[.int .u64 0, .int .u64 0, .int .u64 0, .int .u64 0])).run Tryd.prog w = .ok true w) := fun w => by
                      rw [neqIn0 x (by rw [ex]; exact HCK2.out.2.2.1 i) w, decide_eq_true hx0]
                    have HFX : Hid (∀ t, t < i + 1 → F t = 0) := fun t ht => by
                      rcases Nat.lt_or_ge t i with h | h
                      · exact HFZ.out t h
                      · rw [show t = i by omega, ← ex]; exact hx0
                    clear ex hx0 HFZ
                    go_upto_region 28 with fail
                    refine wp_region_Z (fun w' => Below wx.heap.size wx w') 99 (by kernel_rfl) ?_
                    obtain ⟨wD, hD⟩ : ∃ x : World, x = wx.drew := ⟨_, rfl⟩
                    rw [← hD]
                    have hp0_0 : Below wx.heap.size wx wD := by rw [hD]; exact (Below.refl _ _).drew
                    have hlow0 : Below wx.heap.size wx wD := by rw [hD]; exact (Below.refl _ _).drew
                    clear hD
                    refine wpZ_take (i := 0) (v := .slice (some ⟨ab, ao, none⟩) K ac) 146 rfl rfl (by kernel_rfl) (by kernel_rfl) (by kernel_rfl) (Or.inr (by decide)) (fun _ _ _ h => h) (Or.inl ⟨by rfl, fun w hSw => by go_simp⟩) hp0_0 ?_
                    simp only [Act.put, List.setIfInBounds_toArray]
                    dsimp only [List.set_cons_zero, List.set_cons_succ]
                    refine wpZ_take (i := 1) (v := .int .i64 (i : Int)) 147 rfl rfl (by kernel_rfl) (by kernel_rfl) (by kernel_rfl) (Or.inr (by decide)) (fun _ _ _ h => h) (Or.inl ⟨by rfl, fun w hSw => by go_simp⟩) hp0_0 ?_
                    simp only [Act.put, List.setIfInBounds_toArray]
                    dsimp only [List.set_cons_zero, List.set_cons_succ]
                    refine wpZ_take (i := 2) (v := .pointer (some ⟨ab, ao + i * 4, none⟩)) 148 rfl rfl (by kernel_rfl) (by kernel_rfl) (by kernel_rfl) (Or.inr (by decide)) (fun _ _ _ h => h) (Or.inl ⟨by rfl, fun w hSw => by go_simp⟩) hp0_0 ?_
                    simp only [Act.put, List.setIfInBounds_toArray]
                    dsimp only [List.set_cons_zero, List.set_cons_succ]
                    refine wpZ_take (i := 3) (v := .agg #[.int .u64 ((limb 0 (x) : Nat) : Int), .int .u64 ((limb 1 (x) : Nat) : Int), .int .u64 ((limb 2 (x) : Nat) : Int), .int .u64 ((limb 3 (x) : Nat) : Int)]) 149 rfl rfl (by kernel_rfl) (by kernel_rfl) (by kernel_rfl) (Or.inr (by decide)) (fun _ _ _ h => h) (Or.inl ⟨by rfl, fun w hSw => by (obtain ⟨q0, q1, q2, q3⟩ := HC0.out w hSw; clear hSw; go_simp)⟩) hp0_0 ?_
                    simp only [Act.put, List.setIfInBounds_toArray]
                    dsimp only [List.set_cons_zero, List.set_cons_succ]
                    refine wpZ_take (i := 4) (v := .agg #[.int .u64 0, .int .u64 0, .int .u64 0, .int .u64 0]) 150 rfl rfl (by kernel_rfl) (by kernel_rfl) (by kernel_rfl) (Or.inr (by decide)) (fun _ _ _ h => h) (Or.inl ⟨by rfl, fun w hSw => by (have qq := (HC2.out.belowAll hSw).cell; clear hSw; go_simp)⟩) hp0_0 ?_
                    simp only [Act.put, List.setIfInBounds_toArray]
                    dsimp only [List.set_cons_zero, List.set_cons_succ]
                    refine wpZ_take (i := 5) (v := .bool false) 151 rfl rfl (by kernel_rfl) (by kernel_rfl) (by kernel_rfl) (Or.inr (by decide)) (fun _ _ _ h => h) (Or.inl ⟨by rfl, fun w hSw => by (have hq := HNE.out w; clear hSw; go_simp)⟩) hp0_0 ?_
                    simp only [Act.put, List.setIfInBounds_toArray]
                    dsimp only [List.set_cons_zero, List.set_cons_succ]
                    refine wpZ_done (by kernel_rfl) ?_ _
                    have hbj := bStep hbi hlow0
                    have hK9 : K ≤ 2001 := HCK2.out.2.1
                    clear hlow0 HC0 HC2 HNE
                    go_wp2
                    go_roundw
                    case measure => simp [intOf]; omega
                    case rel => exact ⟨i + 1, by go_num, by omega, hbj, HFX.out⟩
                  · have HNE : Hid (∀ w, (Op.equalIn 10000 24 (.agg #[.int .u64 ((limb 0 (x) : Nat) : Int), .int .u64 ((limb 1 (x) : Nat) : Int), .int .u64 ((limb 2 (x) : Nat) : Int), .int .u64 ((limb 3 (x) : Nat) : Int)]) (.agg #[.int .u64 0, .int .u64 0, .int .u64 0, .int .u64 0])).run Tryd.prog w = .ok false w) := fun w => by
                      rw [neqIn0 x (by rw [ex]; exact HCK2.out.2.2.1 i) w, decide_eq_false hx0]
                    have HBFA : Hid (hb = false) := by
                      show _ = _
                      rcases Bool.eq_false_or_eq_true hb with h | h
                      · refine absurd ?_ hx0
                        have hm := HHB.out.1 h r hlt ((ck r).getD i 0) (by
                          have hil : i < (ck r).length := by rw [← HCK2.out.2.2.2.1]; exact hlk
                          rw [List.getD_eq_getElem?_getD, List.getElem?_eq_getElem hil, Option.getD_some]
                          exact List.getElem_mem hil)
                        rw [ex, HCK2.out.2.2.2.2]
                        exact hm
                      · exact h
                    clear ex hx0 HFZ
                    go_upto_region 28 with fail
                    refine wp_region_Z (fun w' => Below wx.heap.size wx w') 99 (by kernel_rfl) ?_
                    obtain ⟨wD, hD⟩ : ∃ x : World, x = wx.drew := ⟨_, rfl⟩
                    rw [← hD]
                    have hp0_0 : Below wx.heap.size wx wD := by rw [hD]; exact (Below.refl _ _).drew
                    have hlow0 : Below wx.heap.size wx wD := by rw [hD]; exact (Below.refl _ _).drew
                    clear hD
                    refine wpZ_take (i := 0) (v := .slice (some ⟨ab, ao, none⟩) K ac) 146 rfl rfl (by kernel_rfl) (by kernel_rfl) (by kernel_rfl) (Or.inr (by decide)) (fun _ _ _ h => h) (Or.inl ⟨by rfl, fun w hSw => by go_simp⟩) hp0_0 ?_
                    simp only [Act.put, List.setIfInBounds_toArray]
                    dsimp only [List.set_cons_zero, List.set_cons_succ]
                    refine wpZ_take (i := 1) (v := .int .i64 (i : Int)) 147 rfl rfl (by kernel_rfl) (by kernel_rfl) (by kernel_rfl) (Or.inr (by decide)) (fun _ _ _ h => h) (Or.inl ⟨by rfl, fun w hSw => by go_simp⟩) hp0_0 ?_
                    simp only [Act.put, List.setIfInBounds_toArray]
                    dsimp only [List.set_cons_zero, List.set_cons_succ]
                    refine wpZ_take (i := 2) (v := .pointer (some ⟨ab, ao + i * 4, none⟩)) 148 rfl rfl (by kernel_rfl) (by kernel_rfl) (by kernel_rfl) (Or.inr (by decide)) (fun _ _ _ h => h) (Or.inl ⟨by rfl, fun w hSw => by go_simp⟩) hp0_0 ?_
                    simp only [Act.put, List.setIfInBounds_toArray]
                    dsimp only [List.set_cons_zero, List.set_cons_succ]
                    refine wpZ_take (i := 3) (v := .agg #[.int .u64 ((limb 0 (x) : Nat) : Int), .int .u64 ((limb 1 (x) : Nat) : Int), .int .u64 ((limb 2 (x) : Nat) : Int), .int .u64 ((limb 3 (x) : Nat) : Int)]) 149 rfl rfl (by kernel_rfl) (by kernel_rfl) (by kernel_rfl) (Or.inr (by decide)) (fun _ _ _ h => h) (Or.inl ⟨by rfl, fun w hSw => by (obtain ⟨q0, q1, q2, q3⟩ := HC0.out w hSw; clear hSw; go_simp)⟩) hp0_0 ?_
                    simp only [Act.put, List.setIfInBounds_toArray]
                    dsimp only [List.set_cons_zero, List.set_cons_succ]
                    refine wpZ_take (i := 4) (v := .agg #[.int .u64 0, .int .u64 0, .int .u64 0, .int .u64 0]) 150 rfl rfl (by kernel_rfl) (by kernel_rfl) (by kernel_rfl) (Or.inr (by decide)) (fun _ _ _ h => h) (Or.inl ⟨by rfl, fun w hSw => by (have qq := (HC2.out.belowAll hSw).cell; clear hSw; go_simp)⟩) hp0_0 ?_
                    simp only [Act.put, List.setIfInBounds_toArray]
                    dsimp only [List.set_cons_zero, List.set_cons_succ]
                    refine wpZ_take (i := 5) (v := .bool true) 151 rfl rfl (by kernel_rfl) (by kernel_rfl) (by kernel_rfl) (Or.inr (by decide)) (fun _ _ _ h => h) (Or.inl ⟨by rfl, fun w hSw => by (have hq := HNE.out w; clear hSw; go_simp)⟩) hp0_0 ?_
                    simp only [Act.put, List.setIfInBounds_toArray]
                    dsimp only [List.set_cons_zero, List.set_cons_succ]
                    refine wpZ_done (by kernel_rfl) ?_ _
                    have HBJ : Hid (Below wL.heap.size wL _) := bStep HBF.out hlow0
                    clear hlow0 HC0 HC2 HNE
                    go_wp2
                    go_ret
                    exact ⟨by rw [HBFA.out]; rfl, bStep HBL.out.2.2.2.2 HBJ.out⟩
                · have hii : ¬ (i : Int) < (K : Int) := by omega
                  have HBF : Hid (Below wL.heap.size wL wx) := bStep HBZ.out hbi
                  have HZN : Hid (∀ t, t < r + 1 → ∀ v, v ∈ ck t → v = 0) := fun t ht v hv => by
                    rcases Nat.lt_or_ge t r with h | h
                    · exact HZR.out t h v hv
                    · rw [show t = r by omega] at hv
                      obtain ⟨k, hk, rfl⟩ := List.getElem_of_mem hv
                      have hf := HFZ.out k (by have := HCK2.out.2.2.2.1; omega)
                      rw [HCK2.out.2.2.2.2] at hf
                      simpa [List.getD_eq_getElem?_getD, List.getElem?_eq_getElem hk] using hf
                  go_wp2
                  go_roundw
                  case measure => simp [intOf]; omega
                  case rel => exact ⟨r + 1, by go_num, by omega, HBF.out, HZN.out⟩
    · have hri : ¬ (r : Int) < (P : Int) := by omega
      have HBT : Hid (hb = true) := HHB.out.2 (fun i hi => HZR.out i (by omega))
      go_wp2
      go_ret
      exact ⟨by rw [HBT.out]; rfl, HBQ.out⟩
end Go.Proofs.YtoipnjfajandmaaDoor
