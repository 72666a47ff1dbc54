/- sheet.Faults. -/
import Derived.Test.YtgldibfpidmfhaaGreatDoorUSU
import Derived.Test.YtgldibfpidmfhaaGreatDoorUSQ
import Derived.Test.YtgldibfpidmfhaaGreatDoorUSHI
namespace Go.Proofs.YtgldibfpidmfhaaGreatDoor
open Go.RowKit
def vs3 (a b c : Value) (i : Nat) : Value := if i = 0 then a else if i = 1 then b else c
def xs3 (a b c : List (Int × Int × Int)) (i : Nat) : List (Int × Int × Int) := if i = 0 then a else if i = 1 then b else c
theorem cat3 (a b c : List (Int × Int × Int)) : catL (xs3 a b c) 3 = a ++ b ++ c := by
  show (([] ++ a) ++ b) ++ c = _
  rw [List.nil_append]
theorem three_tab (w : World) (t : TypeId) (a b c : Value) : Rs (w.alloc (.cells #[a, b, c] t)) (.slice (some ⟨w.heap.size, 0, none⟩) 3 3) 1 3 (fun i _ => vs3 a b c i) := by
  refine BlkR.Rs (t := t) ⟨#[a, b, c], ?_, rfl, ?_⟩ (by decide)
  · show (w.heap.push _)[w.heap.size]? = _; simp
  · intro i hi j hj
    have hj0 : j = 0 := by omega
    subst hj0
    have hc : i = 0 ∨ i = 1 ∨ i = 2 := by omega
    rcases hc with rfl | rfl | rfl <;> rfl
theorem fs3 {w : World} {a b c : Value} {xs : Nat → List (Int × Int × Int)} {i : Nat} (hi : i < 3) (ha : Fs w a (xs 0)) (hb : Fs w b (xs 1)) (hc : Fs w c (xs 2)) : Fs w (vs3 a b c i) (xs i) := by
  have h : i = 0 ∨ i = 1 ∨ i = 2 := by omega
  rcases h with rfl | rfl | rfl
  · exact ha
  · exact hb
  · exact hc
/-- What Faults answers: a list and no error, or an error alone. -/
def FauP (e : Ending) (w w' : World) (ek : Int) (xs : List (Int × Int × Int)) : Prop := (ek = 0 ∧ ∃ v, e = .returned (.tuple #[v, .int .i64 0]) ∧ FlO w' v w.heap.size xs) ∨ (ek ≠ 0 ∧ e = .returned (.tuple #[.slice none 0 0, .int .i64 ek]))
set_option maxHeartbeats 4000000 in
set_option maxRecDepth 100000 in
theorem faults_out (s : Int) (hs : s < 0 ∨ 4 ≤ s) (F A I : Int) (oN oG oL oE oa ob oc od : Option Addr) (n cN g cG l cL m cE na ca nb cb nc cc nd cd : Nat) (k : Int) (w : World) :
    Calls Tryz.prog 9 #[.int .i64 s, .agg #[.int .i64 F, .int .i64 A, .int .i64 I, .slice oN n cN, .slice oG g cG, .slice oL l cL, .slice oE m cE], .int .i64 k, .agg #[.slice oa na ca, .slice ob nb cb, .slice oc nc cc, .slice od nd cd]] w fun e w' => e = .returned (.tuple #[.slice none 0 0, .int .i64 20]) ∧ Below w.heap.size w w' := by
  obtain ⟨B1, eB1⟩ : ∃ b, b = w.heap.size := ⟨_, rfl⟩
  obtain ⟨B2, eB2⟩ : ∃ b, b = w.heap.size + 1 := ⟨_, rfl⟩
  obtain ⟨w1, hw1⟩ : ∃ z : World, z = w.alloc (.cells #[.int .i64 F, .int .i64 A, .int .i64 I, .slice oN n cN, .slice oG g cG, .slice oL l cL, .slice oE m cE] 27) := ⟨_, rfl⟩
  have hz1 : w1.heap.size = w.heap.size + 1 := by rw [hw1]; simp
  obtain ⟨w2, hw2⟩ : ∃ z : World, z = w1.alloc (.cells #[.slice oa na ca, .slice ob nb cb, .slice oc nc cc, .slice od nd cd] 31) := ⟨_, rfl⟩
  have hb1 : Below w.heap.size w w1 := by rw [hw1]; exact bAlloc (Below.refl _ _) _
  have hb2 : Below w1.heap.size w1 w2 := by rw [hw2]; exact bAlloc (Below.refl _ _) _
  have f1 : w1.heap[B1]? = some (.cells #[.int .i64 F, .int .i64 A, .int .i64 I, .slice oN n cN, .slice oG g cG, .slice oL l cL, .slice oE m cE] 27) := by rw [hw1, eB1]; show (w.heap.push _)[w.heap.size]? = _; simp
  have f12 := (hb2.block B1 (by omega)).trans f1
  have f2 : w2.heap[B2]? = some (.cells #[.slice oa na ca, .slice ob nb cb, .slice oc nc cc, .slice od nd cd] 31) := by rw [hw2, eB2, ← hz1]; show (w1.heap.push _)[w1.heap.size]? = _; simp
  have HB2 : Hid (Below w.heap.size w w2) := bStep hb1 hb2
  obtain ⟨q0, q1, q2, q3, q4, q5, q6⟩ : w2.cell? ⟨B1, 0, none⟩ = some (.int .i64 F) ∧ w2.cell? ⟨B1, 1, none⟩ = some (.int .i64 A) ∧ w2.cell? ⟨B1, 2, none⟩ = some (.int .i64 I) ∧ w2.cell? ⟨B1, 3, none⟩ = some (.slice oN n cN) ∧ w2.cell? ⟨B1, 4, none⟩ = some (.slice oG g cG) ∧ w2.cell? ⟨B1, 5, none⟩ = some (.slice oL l cL) ∧ w2.cell? ⟨B1, 6, none⟩ = some (.slice oE m cE) := by have h1 := f12; exact ⟨by simp [World.cell?, h1], by simp [World.cell?, h1], by simp [World.cell?, h1], by simp [World.cell?, h1], by simp [World.cell?, h1], by simp [World.cell?, h1], by simp [World.cell?, h1]⟩
  obtain ⟨r0, r1, r2, r3⟩ : w2.cell? ⟨B2, 0, none⟩ = some (.slice oa na ca) ∧ w2.cell? ⟨B2, 1, none⟩ = some (.slice ob nb cb) ∧ w2.cell? ⟨B2, 2, none⟩ = some (.slice oc nc cc) ∧ w2.cell? ⟨B2, 3, none⟩ = some (.slice od nd cd) := by have h1 := f2; exact ⟨by simp [World.cell?, h1], by simp [World.cell?, h1], by simp [World.cell?, h1], by simp [World.cell?, h1]⟩
  have HFO : Hid (Calls _ _ _ _ _) := over_out s hs F A I oN oG oL oE oa ob oc od n cN g cG l cL m cE na ca nb cb nc cc nd cd k w2
  clear hs f1 f12 f2 hb1 hb2
  go_enter Tryz.func9, Tryz.ntmps9
  go_upto_region 1 with fail
  rw [← hw1]
  rw [← hw2]
  (try rw [← eB2]); (try rw [← eB1])
  clear hw1 hw2 hz1 eB1 eB2
  go_wp2_with fail
  refine Calls.mono HFO.out ?_
  rintro e w3 ⟨hfp, hb3⟩
  have HBF : Hid (∀ o, Below w.heap.size w (w3.alloc o)) := fun o => bAlloc (bStep HB2.out hb3) o
  clear hb3 q0 q1 q2 q3 q4 q5 q6 r0 r1 r2 r3 HFO
  rcases hfp with ⟨h0, _⟩ | ⟨_, rfl⟩
  · exact absurd h0 (by decide)
  · go_wp2
    go_ret2
    exact ⟨rfl, HBF.out _⟩
set_option maxHeartbeats 4000000 in
set_option maxRecDepth 100000 in
theorem faults_bad (s : Nat) (hs : s < 4) (F A I : Int) (oN oG oL oE oa ob oc od : Option Addr) (n cN g cG l cL m cE na ca nb cb nc cc nd cd : Nat) (k : Int) (f : Nat → Value × Value) (ni nt : Nat → Nat) (In Tb : Nat → Nat → Int) (T : Nat → Int × Int × Int × Nat) (G : Nat → Int) (E : Nat → Int × Int) (Fa Fb Fc : Nat → Value) (La Lb Lc : Nat → Nat) (Ea Eb Ec : Nat → Nat → Nat) (P : Nat → Int × Int × Int × Int) (hgn : g ≤ 100000000000000) (hr : Rng F A I m E) (ha : na ≤ 1000000) (hb : nb ≤ 1000000) (hc : nc ≤ 1000000) (hd : nd ≤ 1000000) (w : World) (hg : Glob w) (hci : Cir w (.slice oN n cN) (.slice oG g cG) (.slice oL l cL) (.slice oE m cE) n T g G l f ni nt In Tb m E) (hsh : ShQ w (.slice oa na ca) (.slice ob nb cb) (.slice oc nc cc) (.slice od nd cd) na Fa La Ea nb Fb Lb Eb nc Fc Lc Ec nd P) (hek : filE (cirE (chkB n T F A I) (rgtB n T F A I g G l ni nt In Tb m E)) k (shtB F A I m na nb nc nd La Lb Lc P k) ≠ 0) :
    Calls Tryz.prog 9 #[.int .i64 (s : Int), .agg #[.int .i64 F, .int .i64 A, .int .i64 I, .slice oN n cN, .slice oG g cG, .slice oL l cL, .slice oE m cE], .int .i64 k, .agg #[.slice oa na ca, .slice ob nb cb, .slice oc nc cc, .slice od nd cd]] w fun e w' => e = .returned (.tuple #[.slice none 0 0, .int .i64 (filE (cirE (chkB n T F A I) (rgtB n T F A I g G l ni nt In Tb m E)) k (shtB F A I m na nb nc nd La Lb Lc P k))]) ∧ Below w.heap.size w w' := by
  obtain ⟨B1, eB1⟩ : ∃ b, b = w.heap.size := ⟨_, rfl⟩
  obtain ⟨B2, eB2⟩ : ∃ b, b = w.heap.size + 1 := ⟨_, rfl⟩
  obtain ⟨w1, hw1⟩ : ∃ z : World, z = w.alloc (.cells #[.int .i64 F, .int .i64 A, .int .i64 I, .slice oN n cN, .slice oG g cG, .slice oL l cL, .slice oE m cE] 27) := ⟨_, rfl⟩
  have hz1 : w1.heap.size = w.heap.size + 1 := by rw [hw1]; simp
  obtain ⟨w2, hw2⟩ : ∃ z : World, z = w1.alloc (.cells #[.slice oa na ca, .slice ob nb cb, .slice oc nc cc, .slice od nd cd] 31) := ⟨_, rfl⟩
  have hb1 : Below w.heap.size w w1 := by rw [hw1]; exact bAlloc (Below.refl _ _) _
  have hb2 : Below w1.heap.size w1 w2 := by rw [hw2]; exact bAlloc (Below.refl _ _) _
  have f1 : w1.heap[B1]? = some (.cells #[.int .i64 F, .int .i64 A, .int .i64 I, .slice oN n cN, .slice oG g cG, .slice oL l cL, .slice oE m cE] 27) := by rw [hw1, eB1]; show (w.heap.push _)[w.heap.size]? = _; simp
  have f12 := (hb2.block B1 (by omega)).trans f1
  have f2 : w2.heap[B2]? = some (.cells #[.slice oa na ca, .slice ob nb cb, .slice oc nc cc, .slice od nd cd] 31) := by rw [hw2, eB2, ← hz1]; show (w1.heap.push _)[w1.heap.size]? = _; simp
  have HB2 : Hid (Below w.heap.size w w2) := bStep hb1 hb2
  obtain ⟨q0, q1, q2, q3, q4, q5, q6⟩ : w2.cell? ⟨B1, 0, none⟩ = some (.int .i64 F) ∧ w2.cell? ⟨B1, 1, none⟩ = some (.int .i64 A) ∧ w2.cell? ⟨B1, 2, none⟩ = some (.int .i64 I) ∧ w2.cell? ⟨B1, 3, none⟩ = some (.slice oN n cN) ∧ w2.cell? ⟨B1, 4, none⟩ = some (.slice oG g cG) ∧ w2.cell? ⟨B1, 5, none⟩ = some (.slice oL l cL) ∧ w2.cell? ⟨B1, 6, none⟩ = some (.slice oE m cE) := by have h1 := f12; exact ⟨by simp [World.cell?, h1], by simp [World.cell?, h1], by simp [World.cell?, h1], by simp [World.cell?, h1], by simp [World.cell?, h1], by simp [World.cell?, h1], by simp [World.cell?, h1]⟩
  obtain ⟨r0, r1, r2, r3⟩ : w2.cell? ⟨B2, 0, none⟩ = some (.slice oa na ca) ∧ w2.cell? ⟨B2, 1, none⟩ = some (.slice ob nb cb) ∧ w2.cell? ⟨B2, 2, none⟩ = some (.slice oc nc cc) ∧ w2.cell? ⟨B2, 3, none⟩ = some (.slice od nd cd) := by have h1 := f2; exact ⟨by simp [World.cell?, h1], by simp [World.cell?, h1], by simp [World.cell?, h1], by simp [World.cell?, h1]⟩
  have HFO : Hid (Calls _ _ _ _ _) := over_in s hs F A I oN oG oL oE oa ob oc od n cN g cG l cL m cE na ca nb cb nc cc nd cd k f ni nt In Tb T G E Fa Fb Fc La Lb Lc Ea Eb Ec P hgn hr ha hb hc hd w2 (hg.below HB2.out) (hci.below HB2.out) (hsh.below HB2.out)
  obtain ⟨ek, eek⟩ : ∃ x, x = filE (cirE (chkB n T F A I) (rgtB n T F A I g G l ni nt In Tb m E)) k (shtB F A I m na nb nc nd La Lb Lc P k) := ⟨_, rfl⟩
  rw [← eek] at HFO hek ⊢
  clear eek hs hg hci hsh hgn hr ha hb hc hd f1 f12 f2 hb1 hb2
  go_enter Tryz.func9, Tryz.ntmps9
  go_upto_region 1 with fail
  rw [← hw1]
  rw [← hw2]
  (try rw [← eB2]); (try rw [← eB1])
  clear hw1 hw2 hz1 eB1 eB2
  go_wp2_with fail
  refine Calls.mono HFO.out ?_
  rintro e w3 ⟨hfp, hb3⟩
  have HBF : Hid (∀ o, Below w.heap.size w (w3.alloc o)) := fun o => bAlloc (bStep HB2.out hb3) o
  clear hb3 q0 q1 q2 q3 q4 q5 q6 r0 r1 r2 r3 HFO
  rcases hfp with ⟨h0, _⟩ | ⟨h0, rfl⟩
  · exact absurd h0 hek
  · clear h0
    go_wp2
    go_ret2
    exact ⟨rfl, HBF.out _⟩
set_option maxHeartbeats 4000000 in
set_option maxRecDepth 100000 in
theorem faults_good (s : Nat) (hs : s < 4) (F A I : Int) (oN oG oL oE oa ob oc od : Option Addr) (n cN g cG l cL m cE na ca nb cb nc cc nd cd : Nat) (kn : Nat) (f : Nat → Value × Value) (ni nt : Nat → Nat) (In Tb : Nat → Nat → Int) (T : Nat → Int × Int × Int × Nat) (G : Nat → Int) (E : Nat → Int × Int) (Fa Fb Fc : Nat → Value) (La Lb Lc : Nat → Nat) (Ea Eb Ec : Nat → Nat → Nat) (P : Nat → Int × Int × Int × Int) (hgn : g ≤ 100000000000000) (hr : Rng F A I m E) (ha : na ≤ 1000000) (hb : nb ≤ 1000000) (hc : nc ≤ 1000000) (hd : nd ≤ 1000000) (un : Nat) (hun : un = 2 ^ kn - 4) (h3 : 3 ≤ kn) (h5 : kn ≤ 5) (hck : chkB n T F A I = true) (hrt : rgtB n T F A I g G l ni nt In Tb m E = true) (hfi : shtB F A I m na nb nc nd La Lb Lc P (kn : Int) = true) (hT : ∀ i, i < n → (T i).2.2.2 < 115792089237316195423570985008687907853269984665640564039457584007913129639936) (hrg : ∀ i, i < n → rng (T i).2.1 ∧ rng (T i).2.2.1) (hE : ShR na La Ea nb Lb Eb nc Lc Ec) (xl : List (Int × Int × Int)) (hxl : xl.length ≤ 100000) (w : World) (hg : Glob w) (hci : Cir w (.slice oN n cN) (.slice oG g cG) (.slice oL l cL) (.slice oE m cE) n T g G l f ni nt In Tb m E) (hsh : ShQ w (.slice oa na ca) (.slice ob nb cb) (.slice oc nc cc) (.slice od nd cd) na Fa La Ea nb Fb Lb Eb nc Fc Lc Ec nd P)
    (hL : ∀ Gm X w', Below w.heap.size w w' → Wk w' Gm X un s na La Ea nb Lb Eb nc Lc Ec kn T n → Calls Tryz.prog 26 #[.agg #[.int .i64 F, .int .i64 A, .int .i64 I, .slice oN n cN, .slice oG g cG, .slice oL l cL, .slice oE m cE, .slice oa na ca, .slice ob nb cb, .slice oc nc cc, .slice od nd cd, .int .i64 (kn : Int), .int .i64 (s : Int), .slice (some ⟨Gm, 0, none⟩) un un]] w' fun e w'' => FlE e w' w'' xl ∧ Below w'.heap.size w' w'') :
    Calls Tryz.prog 9 #[.int .i64 (s : Int), .agg #[.int .i64 F, .int .i64 A, .int .i64 I, .slice oN n cN, .slice oG g cG, .slice oL l cL, .slice oE m cE], .int .i64 (kn : Int), .agg #[.slice oa na ca, .slice ob nb cb, .slice oc nc cc, .slice od nd cd]] w fun e w' => (∃ v, e = .returned (.tuple #[v, .int .i64 0]) ∧ FlO w' v w.heap.size (catL (xs3 (gtL (fun (r : Nat) i => rowV s na La Ea nb Lb Eb nc Lc Ec kn (r : Int) T n i) G (fun i => rwE true T (kn : Int) (G i).toNat) g) xl (cpL (cpD s na La Ea nb Lb Eb nc Lc Ec E P) nd)) 3)) ∧ Below w.heap.size w w' := by
  obtain ⟨B1, eB1⟩ : ∃ b, b = w.heap.size := ⟨_, rfl⟩
  obtain ⟨B2, eB2⟩ : ∃ b, b = w.heap.size + 1 := ⟨_, rfl⟩
  obtain ⟨w1, hw1⟩ : ∃ z : World, z = w.alloc (.cells #[.int .i64 F, .int .i64 A, .int .i64 I, .slice oN n cN, .slice oG g cG, .slice oL l cL, .slice oE m cE] 27) := ⟨_, rfl⟩
  have hz1 : w1.heap.size = w.heap.size + 1 := by rw [hw1]; simp
  obtain ⟨w2, hw2⟩ : ∃ z : World, z = w1.alloc (.cells #[.slice oa na ca, .slice ob nb cb, .slice oc nc cc, .slice od nd cd] 31) := ⟨_, rfl⟩
  have hb1 : Below w.heap.size w w1 := by rw [hw1]; exact bAlloc (Below.refl _ _) _
  have hb2 : Below w1.heap.size w1 w2 := by rw [hw2]; exact bAlloc (Below.refl _ _) _
  have f1 : w1.heap[B1]? = some (.cells #[.int .i64 F, .int .i64 A, .int .i64 I, .slice oN n cN, .slice oG g cG, .slice oL l cL, .slice oE m cE] 27) := by rw [hw1, eB1]; show (w.heap.push _)[w.heap.size]? = _; simp
  have f12 := (hb2.block B1 (by omega)).trans f1
  have f2 : w2.heap[B2]? = some (.cells #[.slice oa na ca, .slice ob nb cb, .slice oc nc cc, .slice od nd cd] 31) := by rw [hw2, eB2, ← hz1]; show (w1.heap.push _)[w1.heap.size]? = _; simp
  have HB2 : Hid (Below w.heap.size w w2) := bStep hb1 hb2
  obtain ⟨q0, q1, q2, q3, q4, q5, q6⟩ : w2.cell? ⟨B1, 0, none⟩ = some (.int .i64 F) ∧ w2.cell? ⟨B1, 1, none⟩ = some (.int .i64 A) ∧ w2.cell? ⟨B1, 2, none⟩ = some (.int .i64 I) ∧ w2.cell? ⟨B1, 3, none⟩ = some (.slice oN n cN) ∧ w2.cell? ⟨B1, 4, none⟩ = some (.slice oG g cG) ∧ w2.cell? ⟨B1, 5, none⟩ = some (.slice oL l cL) ∧ w2.cell? ⟨B1, 6, none⟩ = some (.slice oE m cE) := by have h1 := f12; exact ⟨by simp [World.cell?, h1], by simp [World.cell?, h1], by simp [World.cell?, h1], by simp [World.cell?, h1], by simp [World.cell?, h1], by simp [World.cell?, h1], by simp [World.cell?, h1]⟩
  obtain ⟨r0, r1, r2, r3⟩ : w2.cell? ⟨B2, 0, none⟩ = some (.slice oa na ca) ∧ w2.cell? ⟨B2, 1, none⟩ = some (.slice ob nb cb) ∧ w2.cell? ⟨B2, 2, none⟩ = some (.slice oc nc cc) ∧ w2.cell? ⟨B2, 3, none⟩ = some (.slice od nd cd) := by have h1 := f2; exact ⟨by simp [World.cell?, h1], by simp [World.cell?, h1], by simp [World.cell?, h1], by simp [World.cell?, h1]⟩
  have HFO : Hid (Calls _ _ _ _ _) := over_in s hs F A I oN oG oL oE oa ob oc od n cN g cG l cL m cE na ca nb cb nc cc nd cd (kn : Int) f ni nt In Tb T G E Fa Fb Fc La Lb Lc Ea Eb Ec P hgn hr ha hb hc hd w2 (hg.below HB2.out) (hci.below HB2.out) (hsh.below HB2.out)
  have hz0 : filE (cirE (chkB n T F A I) (rgtB n T F A I g G l ni nt In Tb m E)) (kn : Int) (shtB F A I m na nb nc nd La Lb Lc P (kn : Int)) = 0 := by rw [hck, hrt, hfi]; simp [filE, cirE]; omega
  rw [hz0] at HFO
  have hcp : copB nd P m (kn : Int) = true := by
    unfold shtB at hfi
    rw [Bool.and_eq_true] at hfi
    exact hfi.2
  obtain ⟨xs, exs⟩ : ∃ xs, xs = xs3 (gtL (fun (r : Nat) i => rowV s na La Ea nb Lb Eb nc Lc Ec kn (r : Int) T n i) G (fun i => rwE true T (kn : Int) (G i).toNat) g) xl (cpL (cpD s na La Ea nb Lb Eb nc Lc Ec E P) nd) := ⟨_, rfl⟩
  rw [← exs]
  have HXL : Hid (∀ i, (xs i).length ≤ 100000) := fun i => by
    have h16 := (gatB_true (rgtB_true hrt).2.1).1
    have h1 := gtL_len (fun (r : Nat) i => rowV s na La Ea nb Lb Eb nc Lc Ec kn (r : Int) T n i) G (fun i => rwE true T (kn : Int) (G i).toNat) 28 g (fun j _ => by
      have h := rw_range T (kn : Int) (G j).toNat
      rw [usN_k kn h3 h5] at h
      have hk : kn = 3 ∨ kn = 4 ∨ kn = 5 := by omega
      (try dsimp only)
      rcases hk with rfl | rfl | rfl <;> omega)
    have h2 := cpL_len (cpD s na La Ea nb Lb Eb nc Lc Ec E P) nd
    have h256 : nd ≤ 256 := (of_decide_eq_true hcp).1
    rw [exs]
    unfold xs3
    split
    · omega
    · split
      · exact hxl
      · omega
  have HWO : Hid (∀ w', Below w2.heap.size w2 w' → Calls _ _ _ w' _) := fun w' h => workOut_f F A I oN oG oL oE oa ob oc od n cN g cG l cL m cE na ca nb cb nc cc nd cd kn T Fa Fb Fc La Lb Lc Ea Eb Ec P s un hun hs h3 h5 hck hT hE w' (hg.below (bStep HB2.out h)) (hci.1.below (bStep HB2.out h)) hrg (hsh.below (bStep HB2.out h))
  have HCG : Hid (∀ Gm X w', Below w.heap.size w w' → Wk w' Gm X un s na La Ea nb Lb Eb nc Lc Ec kn T n → Calls Tryz.prog 25 #[.agg #[.int .i64 F, .int .i64 A, .int .i64 I, .slice oN n cN, .slice oG g cG, .slice oL l cL, .slice oE m cE, .slice oa na ca, .slice ob nb cb, .slice oc nc cc, .slice od nd cd, .int .i64 (kn : Int), .int .i64 (s : Int), .slice (some ⟨Gm, 0, none⟩) un un]] w' fun e w'' => FlE e w' w'' (xs 0) ∧ Below w'.heap.size w' w'') := fun Gm X w' h hw => by
    rw [exs]
    exact gateF_f F A I oN oG oL oE oa ob oc od n cN g cG l cL m cE na ca nb cb nc cc nd cd kn f ni nt In Tb T G E La Lb Lc Ea Eb Ec s un Gm X hun h3 h5 hck hrt hr w' (hci.below h) hw
  have HCLk : Hid (∀ Gm X w', Below w.heap.size w w' → Wk w' Gm X un s na La Ea nb Lb Eb nc Lc Ec kn T n → Calls Tryz.prog 26 #[.agg #[.int .i64 F, .int .i64 A, .int .i64 I, .slice oN n cN, .slice oG g cG, .slice oL l cL, .slice oE m cE, .slice oa na ca, .slice ob nb cb, .slice oc nc cc, .slice od nd cd, .int .i64 (kn : Int), .int .i64 (s : Int), .slice (some ⟨Gm, 0, none⟩) un un]] w' fun e w'' => FlE e w' w'' (xs 1) ∧ Below w'.heap.size w' w'') := fun Gm X w' h hw => by
    rw [exs]
    exact hL Gm X w' h hw
  have HCC : Hid (∀ Gm w', Below w.heap.size w w' → Calls Tryz.prog 27 #[.agg #[.int .i64 F, .int .i64 A, .int .i64 I, .slice oN n cN, .slice oG g cG, .slice oL l cL, .slice oE m cE, .slice oa na ca, .slice ob nb cb, .slice oc nc cc, .slice od nd cd, .int .i64 (kn : Int), .int .i64 (s : Int), .slice (some ⟨Gm, 0, none⟩) un un]] w' fun e w'' => FlE e w' w'' (xs 2) ∧ Below w'.heap.size w' w'') := fun Gm w' h => by
    rw [exs]
    exact copyF_f F A I oN oG oL oE oa ob oc od n cN g cG l cL m cE na ca nb cb nc cc nd cd kn E Fa Fb Fc La Lb Lc Ea Eb Ec P s un Gm hs hE hcp w' (hg.below h) (hci.2.2.2.below h) (hsh.below h)
  clear exs hz0 hcp hs hg hci hsh hgn hr ha hb hc hd hun h3 h5 hck hrt hfi hT hrg hE hxl hL f1 f12 f2 hb1 hb2
  go_enter Tryz.func9, Tryz.ntmps9
  go_upto_region 1 with fail
  rw [← hw1]
  rw [← hw2]
  (try rw [← eB2]); (try rw [← eB1])
  clear hw1 hw2 hz1 eB1 eB2
  go_wp2_with fail
  refine Calls.mono HFO.out ?_
  rintro e w3 ⟨hfp, hb3⟩
  clear q0 q1 q2 q3 q4 q5 q6 r0 r1 r2 r3 HFO
  rcases hfp with ⟨_, rfl⟩ | ⟨h0, _⟩
  rotate_left
  · exact absurd rfl h0
  obtain ⟨B10, eB10⟩ : ∃ b, b = w3.heap.size := ⟨_, rfl⟩
  obtain ⟨w4, hw4⟩ : ∃ z : World, z = w3.alloc (.cells #[.int .i64 F, .int .i64 A, .int .i64 I, .slice oN n cN, .slice oG g cG, .slice oL l cL, .slice oE m cE, .slice oa na ca, .slice ob nb cb, .slice oc nc cc, .slice od nd cd, .int .i64 (kn : Int)] 65) := ⟨_, rfl⟩
  have hb4 : Below w3.heap.size w3 w4 := by rw [hw4]; exact bAlloc (Below.refl _ _) _
  have f4 : w4.heap[B10]? = some (.cells #[.int .i64 F, .int .i64 A, .int .i64 I, .slice oN n cN, .slice oG g cG, .slice oL l cL, .slice oE m cE, .slice oa na ca, .slice ob nb cb, .slice oc nc cc, .slice od nd cd, .int .i64 (kn : Int)] 65) := by rw [hw4, eB10]; show (w3.heap.push _)[w3.heap.size]? = _; simp
  obtain ⟨q0, q1, q2, q3, q4, q5, q6, q7, q8, q9, q10, q11⟩ : w4.cell? ⟨B10, 0, none⟩ = some (.int .i64 F) ∧ w4.cell? ⟨B10, 1, none⟩ = some (.int .i64 A) ∧ w4.cell? ⟨B10, 2, none⟩ = some (.int .i64 I) ∧ w4.cell? ⟨B10, 3, none⟩ = some (.slice oN n cN) ∧ w4.cell? ⟨B10, 4, none⟩ = some (.slice oG g cG) ∧ w4.cell? ⟨B10, 5, none⟩ = some (.slice oL l cL) ∧ w4.cell? ⟨B10, 6, none⟩ = some (.slice oE m cE) ∧ w4.cell? ⟨B10, 7, none⟩ = some (.slice oa na ca) ∧ w4.cell? ⟨B10, 8, none⟩ = some (.slice ob nb cb) ∧ w4.cell? ⟨B10, 9, none⟩ = some (.slice oc nc cc) ∧ w4.cell? ⟨B10, 10, none⟩ = some (.slice od nd cd) ∧ w4.cell? ⟨B10, 11, none⟩ = some (.int .i64 (kn : Int)) := by have h1 := f4; exact ⟨by simp [World.cell?, h1], by simp [World.cell?, h1], by simp [World.cell?, h1], by simp [World.cell?, h1], by simp [World.cell?, h1], by simp [World.cell?, h1], by simp [World.cell?, h1], by simp [World.cell?, h1], by simp [World.cell?, h1], by simp [World.cell?, h1], by simp [World.cell?, h1], by simp [World.cell?, h1]⟩
  have HB4 : Hid (Below w2.heap.size w2 w4) := bStep hb3 hb4
  clear hb3 hb4 f4
  go_upto_region 4 with fail
  rw [← hw4]
  (try rw [← eB10])
  clear hw4 eB10
  go_wp2_with fail
  refine Calls.mono (HWO.out w4 HB4.out) ?_
  rintro e w5 ⟨⟨Gm, X, rfl, _, _, hwk⟩, hb5⟩
  clear q0 q1 q2 q3 q4 q5 q6 q7 q8 q9 q10 q11 HWO
  obtain ⟨B12, eB12⟩ : ∃ b, b = w5.heap.size := ⟨_, rfl⟩
  obtain ⟨w6, hw6⟩ : ∃ z : World, z = w5.alloc (.cells #[.int .i64 F, .int .i64 A, .int .i64 I, .slice oN n cN, .slice oG g cG, .slice oL l cL, .slice oE m cE, .slice oa na ca, .slice ob nb cb, .slice oc nc cc, .slice od nd cd, .int .i64 (kn : Int), .int .i64 (s : Int), .slice (some ⟨Gm, 0, none⟩) un un] 69) := ⟨_, rfl⟩
  have hb6 : Below w5.heap.size w5 w6 := by rw [hw6]; exact bAlloc (Below.refl _ _) _
  have f6 : w6.heap[B12]? = some (.cells #[.int .i64 F, .int .i64 A, .int .i64 I, .slice oN n cN, .slice oG g cG, .slice oL l cL, .slice oE m cE, .slice oa na ca, .slice ob nb cb, .slice oc nc cc, .slice od nd cd, .int .i64 (kn : Int), .int .i64 (s : Int), .slice (some ⟨Gm, 0, none⟩) un un] 69) := by rw [hw6, eB12]; show (w5.heap.push _)[w5.heap.size]? = _; simp
  have HFW : Hid (∀ w', Below w6.heap.size w6 w' → w'.cell? ⟨B12, 0, none⟩ = some (.int .i64 F) ∧ w'.cell? ⟨B12, 1, none⟩ = some (.int .i64 A) ∧ w'.cell? ⟨B12, 2, none⟩ = some (.int .i64 I) ∧ w'.cell? ⟨B12, 3, none⟩ = some (.slice oN n cN) ∧ w'.cell? ⟨B12, 4, none⟩ = some (.slice oG g cG) ∧ w'.cell? ⟨B12, 5, none⟩ = some (.slice oL l cL) ∧ w'.cell? ⟨B12, 6, none⟩ = some (.slice oE m cE) ∧ w'.cell? ⟨B12, 7, none⟩ = some (.slice oa na ca) ∧ w'.cell? ⟨B12, 8, none⟩ = some (.slice ob nb cb) ∧ w'.cell? ⟨B12, 9, none⟩ = some (.slice oc nc cc) ∧ w'.cell? ⟨B12, 10, none⟩ = some (.slice od nd cd) ∧ w'.cell? ⟨B12, 11, none⟩ = some (.int .i64 (kn : Int)) ∧ w'.cell? ⟨B12, 12, none⟩ = some (.int .i64 (s : Int)) ∧ w'.cell? ⟨B12, 13, none⟩ = some (.slice (some ⟨Gm, 0, none⟩) un un)) := fun w' h => by
    have h1 := (h.block B12 (Array.getElem?_eq_some_iff.1 f6).1).trans f6
    exact ⟨by simp [World.cell?, h1], by simp [World.cell?, h1], by simp [World.cell?, h1], by simp [World.cell?, h1], by simp [World.cell?, h1], by simp [World.cell?, h1], by simp [World.cell?, h1], by simp [World.cell?, h1], by simp [World.cell?, h1], by simp [World.cell?, h1], by simp [World.cell?, h1], by simp [World.cell?, h1], by simp [World.cell?, h1], by simp [World.cell?, h1]⟩
  have HBW : Hid (Below w.heap.size w w6) := bStep (bStep (bStep HB2.out HB4.out) hb5) hb6
  have hwk6 : Wk w6 Gm X un s na La Ea nb Lb Eb nc Lc Ec kn T n := ⟨hwk.1.belowAll hb6, fun i hi => (hwk.2 i hi).belowAll hb6⟩
  have HCG : Hid (∀ w', Below w6.heap.size w6 w' → Calls Tryz.prog 25 #[.agg #[.int .i64 F, .int .i64 A, .int .i64 I, .slice oN n cN, .slice oG g cG, .slice oL l cL, .slice oE m cE, .slice oa na ca, .slice ob nb cb, .slice oc nc cc, .slice od nd cd, .int .i64 (kn : Int), .int .i64 (s : Int), .slice (some ⟨Gm, 0, none⟩) un un]] w' fun e w'' => FlE e w' w'' (xs 0) ∧ Below w'.heap.size w' w'') := fun w' h => HCG.out Gm X w' (bStep HBW.out h) ⟨hwk6.1.belowAll h, fun i hi => (hwk6.2 i hi).belowAll h⟩
  have HCLk : Hid (∀ w', Below w6.heap.size w6 w' → Calls Tryz.prog 26 #[.agg #[.int .i64 F, .int .i64 A, .int .i64 I, .slice oN n cN, .slice oG g cG, .slice oL l cL, .slice oE m cE, .slice oa na ca, .slice ob nb cb, .slice oc nc cc, .slice od nd cd, .int .i64 (kn : Int), .int .i64 (s : Int), .slice (some ⟨Gm, 0, none⟩) un un]] w' fun e w'' => FlE e w' w'' (xs 1) ∧ Below w'.heap.size w' w'') := fun w' h => HCLk.out Gm X w' (bStep HBW.out h) ⟨hwk6.1.belowAll h, fun i hi => (hwk6.2 i hi).belowAll h⟩
  have HCC : Hid (∀ w', Below w6.heap.size w6 w' → Calls Tryz.prog 27 #[.agg #[.int .i64 F, .int .i64 A, .int .i64 I, .slice oN n cN, .slice oG g cG, .slice oL l cL, .slice oE m cE, .slice oa na ca, .slice ob nb cb, .slice oc nc cc, .slice od nd cd, .int .i64 (kn : Int), .int .i64 (s : Int), .slice (some ⟨Gm, 0, none⟩) un un]] w' fun e w'' => FlE e w' w'' (xs 2) ∧ Below w'.heap.size w' w'') := fun w' h => HCC.out Gm w' (bStep HBW.out h)
  clear hwk hwk6 hb5 hb6 f6 HB4
  go_upto_region 7 with fail
  rw [← hw6]
  (try rw [← eB12])
  clear hw6 eB12
  refine wp_region_Z (fun w' => Below w6.heap.size w6 w') 99 (by kernel_rfl) ?_
  obtain ⟨wD, hD⟩ : ∃ z : World, z = w6.drew := ⟨_, rfl⟩
  rw [← hD]
  have hp0 : Below w6.heap.size w6 wD := by rw [hD]; exact (Below.refl _ _).drew
  clear hD
  refine zt 0 33 (.agg #[.int .i64 F, .int .i64 A, .int .i64 I, .slice oN n cN, .slice oG g cG, .slice oL l cL, .slice oE m cE, .slice oa na ca, .slice ob nb cb, .slice oc nc cc, .slice od nd cd, .int .i64 (kn : Int), .int .i64 (s : Int), .slice (some ⟨Gm, 0, none⟩) un un]) rfl rfl (fun w hSw => by obtain ⟨q0, q1, q2, q3, q4, q5, q6, q7, q8, q9, q10, q11, q12, q13⟩ := HFW.out w hSw; clear hSw; go_simp) hp0 ?_
  simp only [Act.put, List.setIfInBounds_toArray]
  (try dsimp only [List.set_cons_zero, List.set_cons_succ])
  refine zt 2 35 (.agg #[.int .i64 F, .int .i64 A, .int .i64 I, .slice oN n cN, .slice oG g cG, .slice oL l cL, .slice oE m cE, .slice oa na ca, .slice ob nb cb, .slice oc nc cc, .slice od nd cd, .int .i64 (kn : Int), .int .i64 (s : Int), .slice (some ⟨Gm, 0, none⟩) un un]) rfl rfl (fun w hSw => by obtain ⟨q0, q1, q2, q3, q4, q5, q6, q7, q8, q9, q10, q11, q12, q13⟩ := HFW.out w hSw; clear hSw; go_simp) hp0 ?_
  simp only [Act.put, List.setIfInBounds_toArray]
  (try dsimp only [List.set_cons_zero, List.set_cons_succ])
  refine zt 4 37 (.agg #[.int .i64 F, .int .i64 A, .int .i64 I, .slice oN n cN, .slice oG g cG, .slice oL l cL, .slice oE m cE, .slice oa na ca, .slice ob nb cb, .slice oc nc cc, .slice od nd cd, .int .i64 (kn : Int), .int .i64 (s : Int), .slice (some ⟨Gm, 0, none⟩) un un]) rfl rfl (fun w hSw => by obtain ⟨q0, q1, q2, q3, q4, q5, q6, q7, q8, q9, q10, q11, q12, q13⟩ := HFW.out w hSw; clear hSw; go_simp) hp0 ?_
  simp only [Act.put, List.setIfInBounds_toArray]
  (try dsimp only [List.set_cons_zero, List.set_cons_succ])
  refine wpZ_one (i := 1) (by kernel_rfl) rfl (fun K hK => ?_)
  go_simp
  refine Calls.mono (HCG.out wD hp0) ?_
  rintro e wK1 ⟨⟨v1, rfl, ho1⟩, hbK1⟩
  obtain ⟨o1, c1, hs1, _⟩ := own_shape ho1
  subst hs1
  have hg1 := FlO.fs ho1
  have hpK1 : Below w6.heap.size w6 wK1 := bStep hp0 hbK1
  clear hbK1
  go_wp2_with fail
  refine hK.out _ _ (fun _ => hpK1) ?_
  clear hK K
  refine wpZ_one (i := 3) (by kernel_rfl) rfl (fun K hK => ?_)
  go_simp
  refine Calls.mono (HCLk.out wK1 hpK1) ?_
  rintro e wK2 ⟨⟨v2, rfl, ho2⟩, hbK2⟩
  obtain ⟨o2, c2, hs2, _⟩ := own_shape ho2
  subst hs2
  have hg2 := FlO.fs ho2
  have hpK2 : Below w6.heap.size w6 wK2 := bStep hpK1 hbK2
  have hg1 := hg1.below hbK2
  clear hbK2
  go_wp2_with fail
  refine hK.out _ _ (fun _ => hpK2) ?_
  clear hK K
  refine wpZ_one (i := 5) (by kernel_rfl) rfl (fun K hK => ?_)
  go_simp
  refine Calls.mono (HCC.out wK2 hpK2) ?_
  rintro e wK3 ⟨⟨v3, rfl, ho3⟩, hbK3⟩
  obtain ⟨o3, c3, hs3, _⟩ := own_shape ho3
  subst hs3
  have hg3 := FlO.fs ho3
  have hpK3 : Below w6.heap.size w6 wK3 := bStep hpK2 hbK3
  have hg1 := hg1.below hbK3
  have hg2 := hg2.below hbK3
  clear hbK3
  go_wp2_with fail
  refine hK.out _ _ (fun _ => hpK3) ?_
  clear hK K
  refine wpZ_one (i := 6) (by kernel_rfl) rfl (fun K hK => ?_)
  obtain ⟨b9, eb9⟩ : ∃ x, x = wK3.heap.size := ⟨_, rfl⟩
  obtain ⟨wA, ewA⟩ : ∃ x : World, x = wK3.alloc (.cells #[.slice o1 (xs 0).length c1, .slice o2 (xs 1).length c2, .slice o3 (xs 2).length c3] 36) := ⟨_, rfl⟩
  have hbA : Below wK3.heap.size wK3 wA := by rw [ewA]; exact bAlloc (Below.refl _ _) _
  have hRA : Rs wA (.slice (some ⟨b9, 0, none⟩) 3 3) 1 3 (fun i _ => vs3 (.slice o1 (xs 0).length c1) (.slice o2 (xs 1).length c2) (.slice o3 (xs 2).length c3) i) := by rw [ewA, eb9]; exact three_tab wK3 36 _ _ _
  have hpA : Below w6.heap.size w6 wA := bStep hpK3 hbA
  have hg1 := hg1.below hbA
  have hg2 := hg2.below hbA
  have hg3 := hg3.below hbA
  go_simp
  rw [← ewA, ← eb9]
  refine hK.out _ _ (fun _ => hpA) ?_
  clear hK K ewA eb9 hbA
  refine wpZ_one (i := 7) (by kernel_rfl) rfl (fun K hK => ?_)
  go_simp
  refine Calls.mono (concat_f 3 3 _ _ xs (by decide) HXL.out wA hRA (fun i hi => fs3 hi hg1 hg2 hg3)) ?_
  rintro e wK4 ⟨⟨v4, rfl, ho4⟩, hbK4⟩
  obtain ⟨o4, c4, hs4, _⟩ := own_shape ho4
  subst hs4
  have hpK4 : Below w6.heap.size w6 wK4 := bStep hpA hbK4
  have HFN : Hid (FlO wK4 (.slice o4 (catL xs 3).length c4) w.heap.size (catL xs 3)) := own_base ho4 (bStep HBW.out hpA).size
  clear hbK4
  go_wp2_with fail
  refine hK.out _ _ (fun _ => hpK4) ?_
  clear hK K
  refine zt 8 8 (.slice o4 (catL xs 3).length c4) rfl rfl (fun w hSw => by go_simp) hpK4 ?_
  simp only [Act.put, List.setIfInBounds_toArray]
  (try dsimp only [List.set_cons_zero, List.set_cons_succ])
  refine zt 9 9 (.int .i64 0) rfl rfl (fun w hSw => by go_simp) hpK4 ?_
  simp only [Act.put, List.setIfInBounds_toArray]
  (try dsimp only [List.set_cons_zero, List.set_cons_succ])
  refine wpZ_done (by kernel_rfl) ?_ _
  have HBF : Hid (Below w.heap.size w wK4) := bStep HBW.out hpK4
  clear hp0 hpA hpK1 hpK2 hpK3 hpK4 hg1 hg2 hg3 ho1 ho2 ho3 ho4 hRA
  go_wp2
  go_ret2
  exact ⟨⟨_, rfl, HFN.out⟩, HBF.out⟩
end Go.Proofs.YtgldibfpidmfhaaGreatDoor

/- same and alive of sheet's law. -/
namespace Go.Proofs.YtgldibfpidmfhaaGreatDoor
open Go.RowKit
theorem fieldsFt : ∃ n0 n1 n2 : Field, (Tryz.prog.fieldsOf 58).toList = [n0, n1, n2] ∧ (n0.name ≠ "_" ∧ n1.name ≠ "_" ∧ n2.name ≠ "_") ∧ (n0.type = 3 ∧ n1.type = 3 ∧ n2.type = 3) ∧ n0.offset = 0 ∧ n1.offset = 1 ∧ n2.offset = 2 := by
  have h : (Tryz.prog.fieldsOf 58).toList.map (fun f => (f.name, f.type, f.offset)) = [("Kind", 3, 0), ("Index", 3, 1), ("Row", 3, 2)] := by kernel_rfl
  have hlen : (Tryz.prog.fieldsOf 58).toList.length = 3 := by
    have := congrArg List.length h
    simpa using this
  obtain ⟨n0, n1, n2, hl⟩ := list3s _ hlen
  rw [hl] at h ⊢
  simp only [List.map_cons, List.map_nil, List.cons.injEq, Prod.mk.injEq, and_true] at h
  obtain ⟨⟨a1, a2, a3⟩, ⟨b1, b2, b3⟩, ⟨c1, c2, c3⟩⟩ := h
  exact ⟨n0, n1, n2, rfl, ⟨by rw [a1]; decide, by rw [b1]; decide, by rw [c1]; decide⟩, ⟨a2, b2, c2⟩, a3, b3, c3⟩
theorem neqFt (a b c : Int) (w : World) : (binOp .neq 58 (.agg #[.int .i64 a, .int .i64 b, .int .i64 c]) (.agg #[.int .i64 a, .int .i64 b, .int .i64 c])).run Tryz.prog w = .ok (.bool false) w := by
  obtain ⟨n0, n1, n2, hl, ⟨m0, m1, m2⟩, ⟨t0, t1, t2⟩, o0, o1, o2⟩ := fieldsFt
  rw [run_neq_struct, run_equalIn_struct w 9999 _ _ _ (by kernel_rfl) (by kernel_rfl), hl]
  obtain ⟨p0, p1, p2⟩ := part3_at a b c w
  have hq : ∀ a : Int, (Op.equalIn 9999 3 (.int .i64 a) (.int .i64 a)).run Tryz.prog w = .ok true w := fun a => by rw [run_equalIn_int w 9998 3 .i64 .i64 a a Tryz.underlying3]; simp
  simp only [Op.eqFields, m0, m1, m2, ne_eq, not_false_eq_true, if_true, t0, t1, t2, o0, o1, o2, Sem.run_bind, p0, hq, Result.andThen_ok, Bool.not_true, Bool.false_eq_true, if_false, p1, p2]
  simp
set_option maxHeartbeats 4000000 in
set_option maxRecDepth 100000 in
theorem same_any (xs : List (Int × Int × Int)) (N ca cb : Nat) (oa ob : Option Addr) (hN : N = xs.length) (hx : N ≤ 1000000) (w : World) (ha : Fs w (.slice oa N ca) xs) (hb : Fs w (.slice ob N cb) xs) :
    Calls Tryz.prog 11 #[.slice oa N ca, .slice ob N cb] w fun e w' => e = .returned (.bool true) ∧ Below w.heap.size w w' := by
  have HAT : Hid (∀ j, j < N → ∃ ab ao eb eo x y z, oa = some ⟨ab, ao, none⟩ ∧ ob = some ⟨eb, eo, none⟩ ∧ ∀ w', Below w.heap.size w w' → w'.cell? ⟨ab, ao + j * 3, none⟩ = some (.int .i64 x) ∧ w'.cell? ⟨ab, ao + j * 3 + 1, none⟩ = some (.int .i64 y) ∧ w'.cell? ⟨ab, ao + j * 3 + 2, none⟩ = some (.int .i64 z) ∧ w'.cell? ⟨eb, eo + j * 3, none⟩ = some (.int .i64 x) ∧ w'.cell? ⟨eb, eo + j * 3 + 1, none⟩ = some (.int .i64 y) ∧ w'.cell? ⟨eb, eo + j * 3 + 2, none⟩ = some (.int .i64 z)) := fun j hj => by
    unfold Fs at ha hb
    rw [← hN] at ha hb
    rcases ha with ⟨_, h0⟩ | ⟨ab, ao, c1, hv, _, _, hl, hc⟩
    · omega
    cases hv
    rcases hb with ⟨_, h0⟩ | ⟨eb, eo, c2, hv, _, _, hl2, hc2⟩
    · omega
    cases hv
    obtain ⟨x, y, z, hq⟩ : ∃ x y z, xs.getD j (0, 0, 0) = (x, y, z) := ⟨_, _, _, rfl⟩
    have a0 := hc j hj 0 (by decide); have a1 := hc j hj 1 (by decide); have a2 := hc j hj 2 (by decide)
    have b0 := hc2 j hj 0 (by decide); have b1 := hc2 j hj 1 (by decide); have b2 := hc2 j hj 2 (by decide)
    dsimp only at a0 a1 a2 b0 b1 b2
    rw [hq] at a0 a1 a2 b0 b1 b2
    rw [Nat.add_zero] at a0 b0
    refine ⟨ab, ao, eb, eo, x, y, z, rfl, rfl, fun w' h => ?_⟩
    rw [h.cell (p := ⟨ab, _, none⟩) hl, h.cell (p := ⟨ab, _, none⟩) hl, h.cell (p := ⟨ab, _, none⟩) hl, h.cell (p := ⟨eb, _, none⟩) hl2, h.cell (p := ⟨eb, _, none⟩) hl2, h.cell (p := ⟨eb, _, none⟩) hl2]
    exact ⟨a0, a1, a2, b0, b1, b2⟩
  clear ha hb hN
  go_enter Tryz.func11, Tryz.ntmps11
  go_wp2
  go_loopw [5] (fun iv wr => ∃ j : Nat, iv = .int .i64 (j : Int) ∧ j ≤ N ∧ Below w.heap.size w wr) (fun iv _ => N - (intOf iv).toNat)
  case atStart => exact ⟨0, rfl, Nat.zero_le _, Below.refl _ _⟩
  case round =>
    obtain ⟨j, rfl, hj, hbr⟩ := hrel
    have HBR : Hid (Below w.heap.size w wr) := hbr
    by_cases hlt : j < N
    · have hji : (j : Int) < (N : Int) := by omega
      have hj0 : (0 : Int) ≤ (j : Int) := by omega
      obtain ⟨ab, ao, eb, eo, x, y, z, e1, e2, hcl⟩ := HAT.out j hlt
      subst e1 e2
      have HCC : Hid (∀ w', Below wr.heap.size wr w' → w'.cell? ⟨ab, ao + j * 3, none⟩ = some (.int .i64 x) ∧ w'.cell? ⟨ab, ao + j * 3 + 1, none⟩ = some (.int .i64 y) ∧ w'.cell? ⟨ab, ao + j * 3 + 2, none⟩ = some (.int .i64 z) ∧ w'.cell? ⟨eb, eo + j * 3, none⟩ = some (.int .i64 x) ∧ w'.cell? ⟨eb, eo + j * 3 + 1, none⟩ = some (.int .i64 y) ∧ w'.cell? ⟨eb, eo + j * 3 + 2, none⟩ = some (.int .i64 z)) := fun w' h => hcl w' (bStep HBR.out h)
      clear hcl hbr
      go_upto_region 6 with fail
      refine wp_region_Z (fun w' => Below wr.heap.size wr w') 99 (by kernel_rfl) ?_
      obtain ⟨wD, hD⟩ : ∃ z : World, z = wr.drew := ⟨_, rfl⟩
      rw [← hD]
      have hp0 : Below wr.heap.size wr wD := by rw [hD]; exact (Below.refl _ _).drew
      clear hD
      refine zt 0 17 (.slice (some ⟨ab, ao, none⟩) N ca) rfl rfl (fun w hSw => by go_simp) hp0 ?_
      simp only [Act.put, List.setIfInBounds_toArray]
      (try dsimp only [List.set_cons_zero, List.set_cons_succ])
      refine zt 1 18 (.int .i64 (j : Int)) rfl rfl (fun w hSw => by go_simp) hp0 ?_
      simp only [Act.put, List.setIfInBounds_toArray]
      (try dsimp only [List.set_cons_zero, List.set_cons_succ])
      refine zt 2 19 (.pointer (some ⟨ab, ao + j * 3, none⟩)) rfl rfl (fun w hSw => by go_simp) hp0 ?_
      simp only [Act.put, List.setIfInBounds_toArray]
      (try dsimp only [List.set_cons_zero, List.set_cons_succ])
      refine zt 3 20 (.agg #[.int .i64 x, .int .i64 y, .int .i64 z]) rfl rfl (fun w hSw => by obtain ⟨a0, a1, a2, b0, b1, b2⟩ := HCC.out w hSw; clear hSw; go_simp) hp0 ?_
      simp only [Act.put, List.setIfInBounds_toArray]
      (try dsimp only [List.set_cons_zero, List.set_cons_succ])
      refine zt 4 21 (.slice (some ⟨eb, eo, none⟩) N cb) rfl rfl (fun w hSw => by go_simp) hp0 ?_
      simp only [Act.put, List.setIfInBounds_toArray]
      (try dsimp only [List.set_cons_zero, List.set_cons_succ])
      refine zt 5 22 (.int .i64 (j : Int)) rfl rfl (fun w hSw => by go_simp) hp0 ?_
      simp only [Act.put, List.setIfInBounds_toArray]
      (try dsimp only [List.set_cons_zero, List.set_cons_succ])
      refine zt 6 23 (.pointer (some ⟨eb, eo + j * 3, none⟩)) rfl rfl (fun w hSw => by go_simp) hp0 ?_
      simp only [Act.put, List.setIfInBounds_toArray]
      (try dsimp only [List.set_cons_zero, List.set_cons_succ])
      refine zt 7 24 (.agg #[.int .i64 x, .int .i64 y, .int .i64 z]) rfl rfl (fun w hSw => by obtain ⟨a0, a1, a2, b0, b1, b2⟩ := HCC.out w hSw; clear hSw; go_simp) hp0 ?_
      simp only [Act.put, List.setIfInBounds_toArray]
      (try dsimp only [List.set_cons_zero, List.set_cons_succ])
      refine zt 8 25 (.bool false) rfl rfl (fun w hSw => by have hne := neqFt x y z w; clear hSw; go_simp) hp0 ?_
      simp only [Act.put, List.setIfInBounds_toArray]
      (try dsimp only [List.set_cons_zero, List.set_cons_succ])
      refine wpZ_done (by kernel_rfl) ?_ _
      have HBD : Hid (Below w.heap.size w wD) := bStep HBR.out hp0
      clear hp0
      go_wp2
      go_roundw
      case measure => simp [intOf]; omega
      case rel => exact ⟨j + 1, by go_num, hlt, HBD.out⟩
    · have hji : ¬ (j : Int) < (N : Int) := by omega
      clear hbr
      go_wp2
      go_ret
      exact ⟨rfl, HBR.out⟩
/-- The circuit and the sheet that alive looks at. -/
def alT13 (i : Nat) : Int × Int × Int × Nat := if i = 0 then (3, 0, 0, 0) else if i = 1 then (3, 0, 1, 0) else if i = 2 then (5, 1, 0, 0) else (6, 0, 2, 0)
def alE (_ j : Nat) : Nat := if j = 2 then 2 else 1
theorem al13_chk : chkB 4 alT13 0 1 0 = true := by decide +kernel
theorem al13_rgt : rgtB 4 alT13 0 1 0 1 (fun _ => 3) 0 (fun _ => 0) (fun _ => 0) (fun _ _ => 0) (fun _ _ => 0) 0 (fun _ => (0, 0)) = true := by decide +kernel
theorem al13_fit : shtB 0 1 0 0 0 1 0 0 (fun _ => 0) (fun _ => 3) (fun _ => 0) (fun _ => (0, 0, 0, 0)) (((3 : Nat) : Int)) = true := by decide +kernel
theorem al13_list : catL (xs3 (gtL (fun (r : Nat) i => rowV 0 0 (fun _ => 0) (fun _ _ => 0) 1 (fun _ => 3) alE 0 (fun _ => 0) (fun _ _ => 0) 3 (r : Int) alT13 4 i) (fun _ => 3) (fun i => rwE true alT13 (((3 : Nat) : Int)) ((fun _ => 3 : Nat → Int) i).toNat) 1) [] (cpL (cpD 0 0 (fun _ => 0) (fun _ _ => 0) 1 (fun _ => 3) alE 0 (fun _ => 0) (fun _ _ => 0) (fun _ => (0, 0)) (fun _ => (0, 0, 0, 0))) 0)) 3 = [(1, 0, 1), (1, 0, 2)] := by decide +kernel
theorem al13_rng : Rng 0 1 0 0 (fun _ => (0, 0)) := ⟨⟨by decide, by decide⟩, ⟨by decide, by decide⟩, ⟨by decide, by decide⟩, fun j hj => by omega⟩
theorem al13_T : ∀ i, i < 4 → (alT13 i).2.2.2 < 115792089237316195423570985008687907853269984665640564039457584007913129639936 ∧ rng (alT13 i).2.1 ∧ rng (alT13 i).2.2.1 := by
  intro i hi
  have h : i = 0 ∨ i = 1 ∨ i = 2 ∨ i = 3 := by omega
  rcases h with rfl | rfl | rfl | rfl <;> exact ⟨by decide, ⟨by decide, by decide⟩, by decide, by decide⟩
theorem al13_E : ShR 0 (fun _ => 0) (fun _ _ => 0) 1 (fun _ => 3) alE 0 (fun _ => 0) (fun _ _ => 0) := ⟨fun i hi => by omega, fun i _ j _ => by unfold alE; split <;> decide, fun i hi => by omega⟩
theorem al13_cir {w : World} {N0 N1 : Nat} (h0 : w.heap[N0]? = some (.cells #[.int .i64 3, .int .i64 0, .int .i64 0, .int .u64 0, .int .u64 0, .int .u64 0, .int .u64 0, .int .i64 3, .int .i64 0, .int .i64 1, .int .u64 0, .int .u64 0, .int .u64 0, .int .u64 0, .int .i64 5, .int .i64 1, .int .i64 0, .int .u64 0, .int .u64 0, .int .u64 0, .int .u64 0, .int .i64 6, .int .i64 0, .int .i64 2, .int .u64 0, .int .u64 0, .int .u64 0, .int .u64 0] 56)) (h1 : w.heap[N1]? = some (.cells #[.int .i64 3] 3)) : Cir w (.slice (some ⟨N0, 0, none⟩) 4 4) (.slice (some ⟨N1, 0, none⟩) 1 1) (.slice none 0 0) (.slice none 0 0) 4 alT13 1 (fun _ => 3) 0 (fun _ => (undef, undef)) (fun _ => 0) (fun _ => 0) (fun _ _ => 0) (fun _ _ => 0) 0 (fun _ => (0, 0)) := by
  refine ⟨?_, ?_, ⟨Or.inl ⟨rfl, rfl⟩, fun i hi => by omega⟩, Or.inl ⟨rfl, rfl⟩⟩
  · refine BlkR.Rs (t := 56) ⟨_, h0, rfl, ?_⟩ (by decide)
    intro i hi j hj
    have hi' : i = 0 ∨ i = 1 ∨ i = 2 ∨ i = 3 := by omega
    have hj' : j = 0 ∨ j = 1 ∨ j = 2 ∨ j = 3 ∨ j = 4 ∨ j = 5 ∨ j = 6 := by omega
    rcases hi' with rfl | rfl | rfl | rfl <;> rcases hj' with rfl | rfl | rfl | rfl | rfl | rfl | rfl <;> simp [nC, alT13, limb]
  · refine BlkR.Rs (t := 3) ⟨_, h1, rfl, ?_⟩ (by decide)
    intro i hi j hj
    have hi' : i = 0 := by omega
    have hj' : j = 0 := by omega
    subst hi' hj'
    rfl
theorem al13_sht {w : World} {N3 N4 : Nat} (h3 : w.heap[N3]? = some (.cells #[.int .u64 1, .int .u64 0, .int .u64 0, .int .u64 0, .int .u64 1, .int .u64 0, .int .u64 0, .int .u64 0, .int .u64 2, .int .u64 0, .int .u64 0, .int .u64 0] 50)) (h4 : w.heap[N4]? = some (.cells #[.slice (some ⟨N3, 0, none⟩) 3 3] 41)) : ShQ w (.slice none 0 0) (.slice (some ⟨N4, 0, none⟩) 1 1) (.slice none 0 0) (.slice none 0 0) 0 (fun _ => undef) (fun _ => 0) (fun _ _ => 0) 1 (fun _ => .slice (some ⟨N3, 0, none⟩) 3 3) (fun _ => 3) alE 0 (fun _ => undef) (fun _ => 0) (fun _ _ => 0) 0 (fun _ => (0, 0, 0, 0)) := by
  refine ⟨⟨Or.inl ⟨rfl, rfl⟩, fun i hi => by omega⟩, ⟨?_, fun i hi => Or.inl ?_⟩, ⟨Or.inl ⟨rfl, rfl⟩, fun i hi => by omega⟩, Or.inl ⟨rfl, rfl⟩⟩
  · refine BlkR.Rs (t := 41) ⟨_, h4, rfl, ?_⟩ (by decide)
    intro i hi j hj
    have hi' : i = 0 := by omega
    have hj' : j = 0 := by omega
    subst hi' hj'
    rfl
  · refine BlkR.Rs (t := 50) ⟨_, h3, rfl, ?_⟩ (by decide)
    intro i hi j hj
    have hi' : i = 0 ∨ i = 1 ∨ i = 2 := by omega
    have hj' : j = 0 ∨ j = 1 ∨ j = 2 ∨ j = 3 := by omega
    rcases hi' with rfl | rfl | rfl <;> rcases hj' with rfl | rfl | rfl | rfl <;> simp [alE, limb]
theorem al13_fs {w : World} {N5 : Nat} (h5 : w.heap[N5]? = some (.cells #[.int .i64 1, .int .i64 0, .int .i64 1, .int .i64 1, .int .i64 0, .int .i64 2] 58)) : Fs w (.slice (some ⟨N5, 0, none⟩) 2 2) [(1, 0, 1), (1, 0, 2)] := by
  refine BlkR.Rs (t := 58) ⟨_, h5, rfl, ?_⟩ (by decide)
  intro i hi j hj
  have hi2 : i < 2 := hi
  have hi' : i = 0 ∨ i = 1 := by omega
  have hj' : j = 0 ∨ j = 1 ∨ j = 2 := by omega
  rcases hi' with rfl | rfl <;> rcases hj' with rfl | rfl | rfl <;> rfl
set_option maxHeartbeats 4000000 in
set_option maxRecDepth 100000 in
theorem alive13_any (w : World) (hg : Glob w) : Calls Tryz.prog 5 #[] w fun e w' => e = .returned (.bool true) ∧ Below w.heap.size w w' := by
  obtain ⟨N0, eN0⟩ : ∃ x, x = w.heap.size := ⟨_, rfl⟩
  obtain ⟨N1, eN1⟩ : ∃ x, x = N0 + 1 := ⟨_, rfl⟩
  obtain ⟨N2, eN2⟩ : ∃ x, x = N1 + 1 := ⟨_, rfl⟩
  obtain ⟨N3, eN3⟩ : ∃ x, x = N2 + 1 := ⟨_, rfl⟩
  obtain ⟨N4, eN4⟩ : ∃ x, x = N3 + 1 := ⟨_, rfl⟩
  obtain ⟨W, eW⟩ : ∃ x : World, x = ((w.alloc (.cells #[.int .i64 3, .int .i64 0, .int .i64 0, .int .u64 0, .int .u64 0, .int .u64 0, .int .u64 0, .int .i64 3, .int .i64 0, .int .i64 1, .int .u64 0, .int .u64 0, .int .u64 0, .int .u64 0, .int .i64 5, .int .i64 1, .int .i64 0, .int .u64 0, .int .u64 0, .int .u64 0, .int .u64 0, .int .i64 6, .int .i64 0, .int .i64 2, .int .u64 0, .int .u64 0, .int .u64 0, .int .u64 0] 56)).alloc (.cells #[.int .i64 3] 3)).alloc (.cells #[.int .i64 0, .int .i64 1, .int .i64 0, .slice (some ⟨N0, 0, none⟩) 4 4, .slice (some ⟨N1, 0, none⟩) 1 1, .slice none 0 0, .slice none 0 0] 27) := ⟨_, rfl⟩
  have hbW : Below w.heap.size w W := by rw [eW]; exact bAlloc (bAlloc (bAlloc (Below.refl _ _) _) _) _
  have hzW : W.heap.size = N3 := by rw [eW, eN3, eN2, eN1, eN0]; simp
  have g0 : W.heap[N0]? = some (.cells #[.int .i64 3, .int .i64 0, .int .i64 0, .int .u64 0, .int .u64 0, .int .u64 0, .int .u64 0, .int .i64 3, .int .i64 0, .int .i64 1, .int .u64 0, .int .u64 0, .int .u64 0, .int .u64 0, .int .i64 5, .int .i64 1, .int .i64 0, .int .u64 0, .int .u64 0, .int .u64 0, .int .u64 0, .int .i64 6, .int .i64 0, .int .i64 2, .int .u64 0, .int .u64 0, .int .u64 0, .int .u64 0] 56) := by
    rw [eW, eN0]
    refine (((Below.refl _ _).alloc (Nat.le_refl _) _).block w.heap.size (by simp; omega)).trans ?_
    refine (((Below.refl _ _).alloc (Nat.le_refl _) _).block w.heap.size (by simp)).trans ?_
    show (w.heap.push _)[w.heap.size]? = _
    simp
  have g1 : W.heap[N1]? = some (.cells #[.int .i64 3] 3) := by
    rw [eW, eN1, eN0]
    exact (((Below.refl _ _).alloc (Nat.le_refl _) _).block (w.heap.size + 1) (by simp)).trans (new_at _ _ _ (by simp))
  have g2 : W.heap[N2]? = some (.cells #[.int .i64 0, .int .i64 1, .int .i64 0, .slice (some ⟨N0, 0, none⟩) 4 4, .slice (some ⟨N1, 0, none⟩) 1 1, .slice none 0 0, .slice none 0 0] 27) := by
    rw [eW, eN2, eN1, eN0]
    exact new_at _ _ _ (by simp)
  obtain ⟨W2, eW2⟩ : ∃ x : World, x = (W.alloc (.cells #[.int .u64 1, .int .u64 0, .int .u64 0, .int .u64 0, .int .u64 1, .int .u64 0, .int .u64 0, .int .u64 0, .int .u64 2, .int .u64 0, .int .u64 0, .int .u64 0] 50)).alloc (.cells #[.slice (some ⟨N3, 0, none⟩) 3 3] 41) := ⟨_, rfl⟩
  have hbW2 : Below W.heap.size W W2 := by rw [eW2]; exact bAlloc (bAlloc (Below.refl _ _) _) _
  have g3 : W2.heap[N3]? = some (.cells #[.int .u64 1, .int .u64 0, .int .u64 0, .int .u64 0, .int .u64 1, .int .u64 0, .int .u64 0, .int .u64 0, .int .u64 2, .int .u64 0, .int .u64 0, .int .u64 0] 50) := by
    rw [eW2]
    exact (((Below.refl _ _).alloc (Nat.le_refl _) _).block N3 (by simp [hzW])).trans (new_at _ _ _ hzW.symm)
  have g4 : W2.heap[N4]? = some (.cells #[.slice (some ⟨N3, 0, none⟩) 3 3] 41) := by
    rw [eW2]
    exact new_at _ _ _ (by rw [eN4]; simp [hzW])
  have HBW : Hid (Below w.heap.size w W2) := bStep hbW hbW2
  have HFA : Hid (Calls Tryz.prog 9 #[.int .i64 0, .agg #[.int .i64 0, .int .i64 1, .int .i64 0, .slice (some ⟨N0, 0, none⟩) 4 4, .slice (some ⟨N1, 0, none⟩) 1 1, .slice none 0 0, .slice none 0 0], .int .i64 3, .agg #[.slice none 0 0, .slice (some ⟨N4, 0, none⟩) 1 1, .slice none 0 0, .slice none 0 0]] W2 fun e w' => FauP e W2 w' 0 [(1, 0, 1), (1, 0, 2)] ∧ Below W2.heap.size W2 w') := by
    refine (faults_good 0 (by decide) 0 1 0 (some ⟨N0, 0, none⟩) (some ⟨N1, 0, none⟩) none none none (some ⟨N4, 0, none⟩) none none 4 4 1 1 0 0 0 0 0 0 1 1 0 0 0 0 3 (fun _ => (undef, undef)) (fun _ => 0) (fun _ => 0) (fun _ _ => 0) (fun _ _ => 0) alT13 (fun _ => 3) (fun _ => (0, 0)) (fun _ => undef) (fun _ => .slice (some ⟨N3, 0, none⟩) 3 3) (fun _ => undef) (fun _ => 0) (fun _ => 3) (fun _ => 0) (fun _ _ => 0) alE (fun _ _ => 0) (fun _ => (0, 0, 0, 0)) (by decide) al13_rng (by decide) (by decide) (by decide) (by decide) 4 rfl (by decide) (by decide) al13_chk al13_rgt al13_fit (fun i hi => (al13_T i hi).1) (fun i hi => (al13_T i hi).2) al13_E [] (by decide) W2 (hg.below HBW.out) ((al13_cir g0 g1).below hbW2) (al13_sht g3 g4) (fun Gm X w' _ _ => lookF_none 0 1 0 (some ⟨N0, 0, none⟩) (some ⟨N1, 0, none⟩) none none none (some ⟨N4, 0, none⟩) none none 4 4 1 1 0 0 0 0 0 0 1 1 0 0 0 0 3 0 4 Gm rfl w')).mono ?_
    rintro e w' ⟨⟨v, rfl, hv⟩, hb⟩
    rw [al13_list] at hv
    exact ⟨Or.inl ⟨rfl, v, rfl, hv⟩, hb⟩
  obtain ⟨d0, d1, d2, d3, d4, d5, d6⟩ := cells7 g2
  clear g0 g1 g2 g3 g4 hbW hbW2 hg
  go_enter Tryz.func5, Tryz.ntmps5
  go_upto_region 2 with fail
  (try rw [← eN0]); (try rw [← eN1]); (try rw [← eN2])
  rw [← eW]
  have HZW : Hid (W.heap.size = N3) := hzW
  have HE4 : Hid (N4 = N3 + 1) := eN4
  have HW2 : Hid (W2 = (W.alloc (.cells #[.int .u64 1, .int .u64 0, .int .u64 0, .int .u64 0, .int .u64 1, .int .u64 0, .int .u64 0, .int .u64 0, .int .u64 2, .int .u64 0, .int .u64 0, .int .u64 0] 50)).alloc (.cells #[.slice (some ⟨N3, 0, none⟩) 3 3] 41)) := eW2
  clear eW eN0 eN1 eN2 eN3 eN4 hzW eW2
  go_wp2_with fail
  rw [HZW.out]
  (try rw [← HE4.out])
  rw [← HW2.out]
  clear HZW HE4 HW2
  refine HFA.out.mono ?_
  rintro e w2 ⟨hfp, hb2⟩
  rcases hfp with ⟨_, v, rfl, hv⟩ | ⟨h, _⟩
  rotate_left
  · exact absurd rfl h
  obtain ⟨ov, cv, hsv, _⟩ := own_shape hv
  have hsv' : v = .slice ov 2 cv := hsv
  subst hsv'
  have hfs := FlO.fs hv
  obtain ⟨w3, ew3⟩ : ∃ x : World, x = w2.alloc (.cells #[.int .i64 1, .int .i64 0, .int .i64 1, .int .i64 1, .int .i64 0, .int .i64 2] 58) := ⟨_, rfl⟩
  have hb3 : Below w2.heap.size w2 w3 := by rw [ew3]; exact bAlloc (Below.refl _ _) _
  have g5 : w3.heap[w2.heap.size]? = some (.cells #[.int .i64 1, .int .i64 0, .int .i64 1, .int .i64 1, .int .i64 0, .int .i64 2] 58) := by rw [ew3]; exact new_at _ _ _ rfl
  have HSM : Hid (Calls _ _ _ _ _) := same_any [(1, 0, 1), (1, 0, 2)] 2 cv 2 ov (some ⟨w2.heap.size, 0, none⟩) rfl (by decide) w3 (hfs.below hb3) (al13_fs g5)
  have HB3 : Hid (Below w.heap.size w w3) := bStep (bStep HBW.out hb2) hb3
  clear d0 d1 d2 d3 d4 d5 d6 HFA hv hsv hfs hb2 hb3 g5
  go_wp2_with fail
  rw [← ew3]
  clear ew3
  refine HSM.out.mono ?_
  rintro e w4 ⟨rfl, hb4⟩
  have HB4 : Hid (Below w.heap.size w w4) := bStep HB3.out hb4
  clear hb4 HSM
  go_wp2
  go_ret
  exact ⟨rfl, HB4.out⟩
end Go.Proofs.YtgldibfpidmfhaaGreatDoor

